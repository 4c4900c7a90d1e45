"""PAPERs: point [14]."""

import unittest
from collections import deque
from itertools import product
from random import Random

from stolenvoices.deciding import covers
from stolenvoices.errors import BadBoard, BadMachine
from stolenvoices.machines import with_voices
from stolenvoices.papers import is_paper, paper
from stolenvoices.states import START, is_state
from tests import model
from tests.draws import draw_machine, draw_near, draw_state
from tests.test_boards import NO_BOARDS
from tests.things import NO_TUPLES, OTHER_KINDS, exchanged, tell

BOARDS = model.BOARDS
ONE, TWO = (1, ("lowest",), "none"), (2, ("lowest",), "none")


def closed(one, other, pairs, keys, pedal):
    """The tuple of these pairs and of all to which EVENTs of the BOARD lead from them, ascending."""
    found = set(pairs)
    queue = deque(pairs)
    while queue:
        mine, others = queue.popleft()
        for event in model.events_in(mine, keys, pedal):
            new = (model.after(one, mine, event)[0], model.after(other, others, event)[0])
            if new not in found:
                found.add(new)
                queue.append(new)
    return tuple(sorted(found))


def holds(one, other, thing, keys, pedal):
    """Whether a tuple of pairs of STATEs is a PAPER, by the words of [14]."""
    known = set(thing)
    for mine, others in thing:
        if mine[0] != others[0] or model.down_in(mine) != model.down_in(others):
            return False
        if model.key_lacks(mine, others):
            return False
        for event in model.events_in(mine, keys, pedal):
            if (model.after(one, mine, event)[0], model.after(other, others, event)[0]) not in known:
                return False
    return (START, START) in known and list(thing) == sorted(known)


def covering(chance, many):
    """Each BOARD with so many pairs of MACHINEs, the first of which COVERS the second."""
    for keys, pedal in BOARDS:
        found = 0
        while found < many:
            other = draw_machine(chance, chance.randint(1, 2), chance.randint(0, 3))
            one = with_voices(draw_near(chance, other), chance.randint(2, 3))
            if covers(one, other, keys, pedal=pedal):
                found += 1
                yield one, other, keys, pedal


class LeastPapers(unittest.TestCase):

    def test_by_hand(self):
        row = ((0, "sounds"),)
        states = (START, (False, row))
        self.assertEqual(paper(ONE, ONE, 1), tuple((state, state) for state in states))
        both = (False, ((0, "sounds"), (1, "sounds"))), (False, ((1, "sounds"), (0, "sounds")))
        found = paper(TWO, (2, ("refuse",), "lowest"), 2)
        self.assertEqual(found, ((START, START), ((False, row),) * 2, (both[0],) * 2,
                                 ((False, ((1, "sounds"),)),) * 2, (both[1],) * 2))
        self.assertIsNone(paper(ONE, TWO, 2))

    def test_the_pairs_to_which_plays_lead(self):
        chance = Random(1)
        for one, other, keys, pedal in covering(chance, 25):
            found = paper(one, other, keys, pedal=pedal)
            far = model.distances([one, other], keys, pedal)
            self.assertEqual(found, tuple(sorted(far)))
            self.assertIsInstance(found, tuple)
            self.assertTrue(all(before < after for before, after in zip(found, found[1:])))
            self.assertIs(is_paper(one, other, found, keys, pedal=pedal), True)

    def test_none_exactly_if_it_does_not_cover(self):
        chance = Random(2)
        seen = set()
        for keys, pedal in BOARDS * 20:
            one = draw_machine(chance, chance.randint(1, 3), chance.randint(0, 2))
            other = draw_near(chance, one)
            far = model.distances([one, other], keys, pedal)
            wanted = model.nearest(far, model.key_lacks) is None
            seen.add(wanted)
            self.assertIs(paper(one, other, keys, pedal=pedal) is not None, wanted)
            # All pairs to which PLAYs lead are no PAPER if one of them lacks a KEY.
            self.assertIs(is_paper(one, other, tuple(sorted(far)), keys, pedal=pedal), wanted)
        self.assertEqual(seen, {True, False})

    def test_by_name(self):
        found = paper(pedal=True, keys=2, other=ONE, one=TWO)
        self.assertEqual(found, paper(TWO, ONE, 2, pedal=True))
        self.assertIs(is_paper(pedal=True, keys=2, thing=found, other=ONE, one=TWO), True)
        self.assertRaises(TypeError, paper, TWO, ONE, 2, True)
        self.assertRaises(TypeError, is_paper, TWO, ONE, found, 2, True)


class Changed(unittest.TestCase):

    def is_none(self, one, other, thing, keys, pedal=False):
        self.assertIs(is_paper(one, other, thing, keys, pedal=pedal), False)

    def test_pairs_left_out_exchanged_and_twice(self):
        chance = Random(3)
        for one, other, keys, pedal in covering(chance, 5):
            found = paper(one, other, keys, pedal=pedal)
            for number in chance.sample(range(len(found)), min(len(found), 10)):
                pair = found[number]
                self.is_none(one, other, found[:number] + found[number + 1:], keys, pedal)
                self.is_none(one, other, found[:number] + (pair, pair) + found[number + 1:], keys, pedal)
                after = found[number + 1:number + 2]
                if after:
                    self.is_none(one, other, found[:number] + after + (pair,) + found[number + 2:],
                                 keys, pedal)
            self.is_none(one, other, found[::-1], keys, pedal)
            self.is_none(one, other, found + found, keys, pedal)
            self.is_none(one, other, list(found), keys, pedal)
            self.is_none(one, other, (found,), keys, pedal)
            self.is_none(one, other, (), keys, pedal)
            self.is_none(one, other, {pair: True for pair in found}, keys, pedal)

    def test_another_state_in_a_pair(self):
        chance = Random(4)
        for one, other, keys, pedal in covering(chance, 12):
            found = paper(one, other, keys, pedal=pedal)
            for _ in range(20):
                number, side = chance.randrange(len(found)), chance.randrange(2)
                state = draw_state(chance, (one, other)[side], range(keys))
                pair = (state, found[number][1]) if side == 0 else (found[number][0], state)
                thing = tuple(sorted((*found[:number], pair, *found[number + 1:])))
                wanted = holds(one, other, thing, keys, pedal)
                self.assertIs(is_paper(one, other, thing, keys, pedal=pedal), wanted)
                self.assertIs(wanted, pair == found[number])

    def test_pairs_more(self):
        chance = Random(5)
        seen = set()
        for one, other, keys, pedal in covering(chance, 30):
            found = paper(one, other, keys, pedal=pedal)
            for places in (range(keys), range(keys + 2)):
                mine = draw_state(chance, one, places)
                pair = (mine, mine if is_state(other, mine) and chance.random() < 0.8 else
                        draw_state(chance, other, places))
                if pair in found or len(mine[1]) > 4:
                    continue
                thing = tuple(sorted((*found, pair)))
                wanted = holds(one, other, thing, keys, pedal)
                self.assertIs(is_paper(one, other, thing, keys, pedal=pedal), wanted)
                if mine[0] == pair[1][0] and model.down_in(mine) == model.down_in(pair[1]):
                    thing = closed(one, other, [*found, pair], keys, pedal)
                    wanted = holds(one, other, thing, keys, pedal)
                    seen.add(wanted)
                    self.assertIs(is_paper(one, other, thing, keys, pedal=pedal), wanted)
        self.assertEqual(seen, {True, False})

    def closed_with(self, wanted, one, other, mine, others, keys, pedal=False):
        """Whether the LEAST PAPER, the pair and all behind it are a PAPER, as wanted."""
        self.assertTrue(is_state(one, mine) and is_state(other, others))
        thing = closed(one, other, [(START, START), (mine, others)], keys, pedal)
        self.assertIs(is_paper(one, other, thing, keys, pedal=pedal), wanted)

    def test_keys_beyond_the_board(self):
        far, near = (87, "sounds"), (50, "sounds")
        for one, other in ((ONE, ONE), (TWO, ONE)):
            self.closed_with(True, one, other, (False, (far,)), (False, (far,)), 2)
            self.closed_with(True, one, other, (True, ((50, "kept"),)), (True, ((50, "kept"),)), 2)
            self.closed_with(True, one, other, (True, ((50, "kept"),)), (True, ((50, "kept"),)), 2, True)
        self.closed_with(True, TWO, ONE, (False, (far, near)), (False, ((87, "waits"), near)), 1)
        self.closed_with(True, TWO, ONE, (True, (far, (50, "kept"))), (True, (far,)), 1)

    def test_other_keys_are_down(self):
        self.closed_with(False, TWO, ONE, (False, ((87, "sounds"),)), START, 1)
        self.closed_with(False, TWO, ONE, (True, ((87, "sounds"),)), (True, ((87, "kept"),)), 1)
        self.closed_with(False, TWO, ONE, START, (False, ((87, "waits"),)), 1)

    def test_pedals_that_differ(self):
        for keys in (1, 2):
            self.closed_with(False, TWO, TWO, (True, ()), START, keys)
            self.closed_with(False, TWO, TWO, (True, ((87, "sounds"),)), (False, ((87, "sounds"),)), keys)

    def test_a_key_lacks(self):
        sounds, waits = (False, ((87, "sounds"),)), (False, ((87, "waits"),))
        self.closed_with(False, TWO, ONE, waits, sounds, 1)
        self.closed_with(True, TWO, ONE, sounds, waits, 1)
        self.closed_with(False, TWO, ONE, (True, ()), (True, ((87, "kept"),)), 1)
        self.closed_with(True, TWO, ONE, (True, ((87, "kept"),)), (True, ()), 1)

    def test_no_state_of_that_machine(self):
        both = (False, ((86, "sounds"), (87, "sounds")))
        thing = closed(TWO, TWO, [(START, START), (both, both)], 1, False)
        self.assertIs(is_paper(TWO, TWO, thing, 1), True)
        self.is_none(TWO, ONE, thing, 1)
        self.is_none(ONE, TWO, thing, 1)

    def test_without_start(self):
        pair = ((False, ((87, "sounds"),)),) * 2
        thing = closed(ONE, ONE, [pair], 1, False)
        self.is_none(ONE, ONE, thing, 1)
        thing = closed(ONE, ONE, [pair, (START, START)], 1, False)
        self.assertIs(is_paper(ONE, ONE, thing, 1), True)

    def test_things_of_other_kinds_at_any_depth(self):
        found = paper(TWO, ONE, 2)
        for thing in NO_TUPLES + [[], (None,), ((),), ((START,),), (START, START), ((START, START, START),),
                                  [(START, START)], ([START, START],)]:
            with self.subTest(tell(thing)):
                self.is_none(TWO, ONE, thing, 2)
        # A False for the False of a PEDAL changes nothing.
        others = [thing for thing in OTHER_KINDS if thing is not False] + ["", "sounds ", 10 ** 999]
        for thing in exchanged(found[:3], others):
            self.is_none(TWO, ONE, thing + found[3:] if isinstance(thing, tuple) else thing, 2)

    def test_true_and_false_are_no_keys_and_0_is_no_pedal(self):
        key, other = ((False, ((0, "sounds"),)),) * 2, ((False, ((False, "sounds"),)),) * 2
        self.assertIs(is_paper(ONE, ONE, ((START, START), key), 1), True)
        self.is_none(ONE, ONE, ((START, START), other), 1)
        self.is_none(ONE, ONE, (((0, ()), START), key), 1)
        self.is_none(ONE, ONE, ((START, (0, ())), key), 1)


class Refused(unittest.TestCase):

    def test_machines_then_the_board(self):
        for thing in ((), None, paper(ONE, ONE, 1)):
            for machine, place in (((0, ("eldest",), "none"), ("voices",)), (None, ()),
                                   ((1, ("kept",), "none"), ("criteria", 0))):
                for one, other in ((machine, ONE), (ONE, machine), (machine, ())):
                    with self.assertRaises(BadMachine) as caught:
                        is_paper(one, other, thing, 5)
                    self.assertEqual(caught.exception.place, place)
                    with self.assertRaises(BadMachine) as caught:
                        paper(one, other, 5)
                    self.assertEqual(caught.exception.place, place)
            for keys, pedal in NO_BOARDS:
                calls = (lambda: is_paper(ONE, ONE, thing, keys, pedal=pedal),
                         lambda: paper(ONE, ONE, keys, pedal=pedal))
                for call in calls:
                    with self.assertRaises(BadBoard) as caught:
                        call()
                    self.assertIs(caught.exception.many, keys)

    def test_first_the_one_machine(self):
        for look, between in product((paper, is_paper), ((), None)):
            more = () if look is paper else (between,)
            with self.assertRaises(BadMachine) as caught:
                look((1, ("eldest",), 0), (0, 0, 0), *more, 1)
            self.assertEqual(caught.exception.place, ("return",))


if __name__ == "__main__":
    unittest.main()
