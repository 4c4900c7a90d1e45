"""CHAINs, and MACHINEs that SPLIT: points [20] and [21]."""

import time
import unittest
from itertools import product
from random import Random

from stolenvoices import chains
from stolenvoices.chains import (
    chain_alike, chain_parting, chain_states, chain_trace, need_chain, splits)
from stolenvoices.errors import BadBoard, BadMachine, BadPlay, BadQuestion
from stolenvoices.deciding import alike
from stolenvoices.plays import is_play, last_state, trace
from stolenvoices.states import START
from tests import chain_model, model
from tests.draws import draw_machine, draw_near, draw_play
from tests.things import NO_INTEGERS, NO_TUPLES, OTHER_KINDS, exchanged, tell

ELDEST = (1, ("eldest",), "none")
LOWEST = (1, ("lowest",), "none")
REFUSE = (1, ("refuse",), "eldest")
DOWN = (("down", 2), ("down", 1), ("down", 0))
NO_BOARDS = [0, -1, 5, 88, 10 ** 999, -10 ** 999, *NO_INTEGERS]
NO_CHAINS = NO_TUPLES + [(), (ELDEST,) * 4, [ELDEST], (None,) * 4, {ELDEST: 0}, (ELDEST,) * 300]
BAD_LINKS = [((0, ("eldest",), "none"), ("voices",)), ((1, ("kept", "kept", "eldest"), "none"),
             ("criteria", 1)), ((1, ("eldest",), "refuse"), ("return",))]
BAD_LINKS += [(thing, ()) for thing in NO_TUPLES]


def draw_chain(chance, many=None, voices=3):
    """A CHAIN of so many MACHINEs."""
    many = chance.randint(1, 3) if many is None else many
    return tuple(draw_machine(chance, chance.randint(1, voices), chance.randint(0, 3)) for _ in range(many))


class Chains(unittest.TestCase):

    def test_most_links(self):
        self.assertEqual(chains.MOST_LINKS, 3)

    def test_chains(self):
        chance = Random(1)
        for many in (1, 2, 3):
            chain = draw_chain(chance, many, 8)
            self.assertIs(need_chain(chain), chain)
            self.assertIs(need_chain(thing=chain), chain)

    def test_what_is_no_tuple_of_1_to_3(self):
        for thing in NO_CHAINS:
            with self.subTest(tell(thing)):
                self.assertRaises(BadQuestion, need_chain, thing)

    def test_the_first_one_that_is_no_machine(self):
        for (thing, place), before in product(BAD_LINKS, (0, 1, 2)):
            chain = (ELDEST,) * before + (thing, (0, (), 0))[:3 - before]
            with self.subTest(tell(thing)), self.assertRaises(BadMachine) as caught:
                need_chain(chain)
            self.assertEqual(caught.exception.place, place)
        for thing in exchanged((ELDEST, (2, ("kept", "eldest"), "none")), OTHER_KINDS):
            error = BadMachine if isinstance(thing, tuple) else BadQuestion
            self.assertRaises(error, need_chain, thing)


class Played(unittest.TestCase):

    def test_by_hand(self):
        chain = (LOWEST, ELDEST)
        # The lowest KEY that sounds gives its voice away, and begins to wait: then the next MACHINE plays it.
        self.assertEqual(chain_trace(chain, DOWN), ((2,), (1, 2), (0, 1)))
        self.assertEqual(chain_states(chain, DOWN), (
            (False, ((2, "waits"), (1, "waits"), (0, "sounds"))), (False, ((2, "waits"), (1, "sounds")))))
        play = (*DOWN, ("up", 1), ("up", 2), ("up", 0))
        self.assertEqual(chain_trace(chain, play)[3:], ((0,), (0,), ()))
        self.assertEqual(chain_states(chain, play), (START, START))

    def test_a_key_that_returns_goes_up_at_the_next_one(self):
        chain = (REFUSE, LOWEST)
        play = (("down", 5), ("down", 6), ("down", 7), ("up", 5), ("up", 7))
        self.assertEqual(chain_trace(chain, play), ((5,), (5, 6), (5, 7), (6, 7), (6,)))
        self.assertEqual(chain_states(chain, play[:4]), (
            (False, ((6, "sounds"), (7, "waits"))), (False, ((7, "sounds"),))))
        self.assertEqual(chain_states((REFUSE, REFUSE), play[:4]), (
            (False, ((6, "sounds"), (7, "waits"))), (False, ((7, "sounds"),))))

    def test_the_order_at_the_next_one_is_its_own(self):
        # At the first MACHINE 3 went down ahead of 4; at the next one 4 did, which was refused ahead.
        chain = ((1, ("latest",), "none"), ELDEST, REFUSE)
        play = (("down", 3), ("down", 4), ("down", 5))
        self.assertEqual(chain_states(chain, play)[1], (False, ((3, "waits"), (4, "sounds"))))
        chain = ((2, ("notlow", "highest"), "none"), ELDEST)
        play = (("down", 0), ("down", 5), ("down", 4), ("down", 3), ("up", 0), ("down", 1))
        states = chain_states(chain, play)
        self.assertEqual([key for key, _ in states[0][1]], [5, 4, 3, 1])
        self.assertEqual([key for key, _ in states[1][1]], [5, 4])
        chain = ((1, ("under", "lowest"), "none"), ELDEST)
        play = (("down", 5), ("down", 3), ("down", 8), ("down", 4))
        self.assertEqual([key for key, _ in chain_states(chain, play)[0][1]], [5, 3, 8, 4])
        self.assertEqual([key for key, _ in chain_states(chain, play)[1][1]], [3, 5, 4])

    def test_against_the_second_model(self):
        chance = Random(2)
        for many, keys in product((1, 2, 3), (3, 5, 9, 88)):
            for _ in range(12):
                chain = draw_chain(chance, many)
                play = draw_play(chance, 120, range(keys), False)
                wanted = chain_model.states_behind(chain, play)
                found = chain_trace(chain, play)
                self.assertEqual(found, tuple(map(chain_model.sound_of, wanted)))
                self.assertEqual(chain_states(chain, play), wanted[-1])
                self.assertIsInstance(found, tuple)
                for number in (1, 2, 60):
                    self.assertEqual(chain_states(chain, play[:number]), wanted[number - 1])

    def test_a_chain_of_one_and_the_empty_play(self):
        chance = Random(3)
        for _ in range(20):
            machine = draw_machine(chance)
            play = draw_play(chance, 300, range(machine[0] + 3), False)
            self.assertEqual(chain_trace((machine,), play), trace(machine, play))
            self.assertEqual(chain_states((machine,), play), (last_state(machine, play),))
        for many in (1, 2, 3):
            self.assertEqual(chain_trace((ELDEST,) * many, ()), ())
            self.assertEqual(chain_states((ELDEST,) * many, ()), (START,) * many)

    def test_by_name(self):
        for look in (chain_trace, chain_states):
            self.assertEqual(look(play=DOWN, chain=(LOWEST, ELDEST)), look((LOWEST, ELDEST), DOWN))


class Facts(unittest.TestCase):

    def test_no_key_sounds_twice_and_how_many_sound(self):
        chance = Random(4)
        for number in range(200):
            chain = draw_chain(chance)
            if number % 2:
                chain = tuple((voices, criteria, chance.choice(model.RETURNS[1:])) for voices, criteria, _ in chain)
            most = sum(machine[0] for machine in chain)
            down = set()
            play = draw_play(chance, 40, range(chance.randint(2, 9)), False)
            for at, sound in enumerate(chain_trace(chain, play)):
                down ^= {play[at][1]}
                self.assertEqual(len(set(sound)), len(sound))
                self.assertTrue(set(sound) <= down)
                if number % 2:
                    self.assertEqual(len(sound), min(len(down), most))
            sounds = [model.sound_in(state) for state in chain_states(chain, play)]
            self.assertEqual(len({key for keys in sounds for key in keys}), sum(map(len, sounds)))

    def test_two_with_the_same_pure_rule(self):
        chance = Random(5)
        for rule, voices, others in product(model.PURE, range(1, 8), range(1, 8)):
            if voices + others <= 8:
                chain, one = ((voices, *rule), (others, *rule)), (voices + others, *rule)
                for keys in (range(voices + others + 2), range(88)):
                    play = draw_play(chance, 80, keys, False)
                    self.assertEqual(chain_trace(chain, play), trace(one, play))
                if voices + others < 5:
                    for keys in (1, 2, 3, 4):
                        self.assertIs(chain_alike(chain, (one,), keys), True)


class Alike(unittest.TestCase):

    def decided(self, one, other, keys):
        """The answers agree with a plain search; the fewest EVENTs of a PARTING."""
        fewest = chain_model.fewest_apart(one, other, keys)
        play = chain_parting(one, other, keys)
        self.assertIs(chain_alike(one, other, keys), fewest is None)
        if fewest is None:
            self.assertIsNone(play, (one, other, keys))
            return None
        self.assertIsInstance(play, tuple)
        self.assertTrue(is_play(play) and model.is_board_play(play, keys, False), play)
        self.assertEqual(len(play), fewest, (one, other, keys))
        sounds = list(zip(chain_trace(one, play), chain_trace(other, play)))
        self.assertEqual([mine == others for mine, others in sounds], [True] * (fewest - 1) + [False])
        return fewest

    def test_drawn_chains_both_ways_round(self):
        chance = Random(6)
        seen = set()
        for keys, number in product((1, 2, 3, 4), range(60)):
            one = draw_chain(chance, None, 2)
            kind = number % 4
            if kind == 0:
                other = draw_chain(chance, None, 2)
            elif kind == 1:
                other = one[::-1]
            else:
                at = chance.randrange(len(one))
                other = (*one[:at], draw_near(chance, one[at]), *one[at + 1:])
            fewest = self.decided(one, other, keys)
            self.assertEqual(fewest, self.decided(other, one, keys))
            seen.add((keys, fewest is None, len(one)))
        self.assertEqual(len(seen), 21)

    def test_chains_of_different_lengths(self):
        chance = Random(7)
        found = [self.decided(draw_chain(chance, 1, 4), draw_chain(chance, many, 2), keys)
                 for many, keys, _ in product((2, 3), (2, 3, 4), range(8))]
        self.assertIn(None, found)
        for keys in (1, 2, 3, 4):
            self.assertIsNone(self.decided((REFUSE, REFUSE), ((2, ("refuse",), "eldest"),), keys))
            self.assertIsNone(self.decided(((2, ("refuse",), "eldest"), REFUSE), (REFUSE, REFUSE, REFUSE), keys))
        self.assertIsNone(self.decided((ELDEST, ELDEST), (ELDEST, ELDEST, LOWEST), 2))
        self.assertIsNotNone(self.decided((ELDEST, ELDEST), (ELDEST, ELDEST, LOWEST), 3))

    def test_chains_of_one_are_as_their_machines(self):
        chance = Random(8)
        for keys, _ in product((1, 2, 3, 4), range(20)):
            one = draw_machine(chance, chance.randint(1, 3), chance.randint(0, 2))
            other = draw_near(chance, one)
            self.assertIs(chain_alike((one,), (other,), keys), alike(one, other, keys))

    def test_by_hand(self):
        one, other = (LOWEST, LOWEST), ((2, ("lowest",), "none"),)
        self.assertEqual(self.decided(one, other, 3), 3)
        self.assertIsNone(self.decided(one, other, 2))
        # Where a KEY sounds does not matter, only whether it does.
        self.assertIsNone(self.decided((LOWEST, REFUSE), (REFUSE, LOWEST), 1))

    def test_by_name(self):
        one, other = (LOWEST, LOWEST), ((2, ("lowest",), "none"),)
        self.assertEqual(chain_parting(keys=3, other=other, one=one), chain_parting(one, other, 3))
        self.assertIs(chain_alike(keys=3, other=other, one=one), False)
        self.assertIs(chain_alike(keys=3, other=one, one=one), True)

    def test_the_largest_boards_are_answered_within_a_few_seconds(self):
        one = ((2, ("latest",), "none"), (1, ("notlow", "inner", "refuse"), "none"),
               (1, ("nothigh", "under", "refuse"), "none"))
        three = ((1, ("nothigh", "highest"), "eldest"), (2, ("notlow", "below", "refuse"), "none"),
                 (1, ("under", "nothigh", "notlow", "lowest"), "highest"))
        four = ((1, ("nothigh", "above", "refuse"), "none"), (2, ("refuse",), "none"), (1, ("lowest",), "highest"))
        for pair in ((one, one[::-1]), (three, four), (one, one)):
            before = time.perf_counter()
            self.assertIs(chain_alike(*pair, 4), True)
            self.assertLess(time.perf_counter() - before, 5)


class Splits(unittest.TestCase):

    def test_the_example(self):
        machine = (2, ("lowest",), "none")
        self.assertIs(splits(machine, 1, 3), False)
        self.assertEqual(trace(machine, DOWN)[-1], (0, 2))
        self.assertEqual(chain_trace((LOWEST, LOWEST), DOWN)[-1], (0, 1))
        self.assertIs(splits(machine, 1, 2), True)
        self.assertIs(splits(keys=3, n=1, machine=machine), False)

    def test_pure_rules_split_at_each_number(self):
        for rule, keys in product(model.PURE, (1, 2, 3, 4)):
            for voices in range(2, 9):
                for n in range(1, voices):
                    self.assertIs(splits((voices, *rule), n, keys), True)

    def test_drawn_machines(self):
        chance = Random(9)
        seen = set()
        for keys, voices in product((1, 2, 3, 4), range(2, 6)):
            for _ in range(4):
                machine = draw_machine(chance, voices, chance.randint(0, 2))
                for n in range(1, voices):
                    chain = ((n, *machine[1:]), (voices - n, *machine[1:]))
                    wanted = chain_model.fewest_apart((machine,), chain, keys) is None
                    self.assertIs(splits(machine, n, keys), wanted, (machine, n, keys))
                    seen.add((keys, wanted))
        self.assertTrue({(3, False), (4, False), (4, True)} <= seen)

    def test_which_part_is_ahead_counts(self):
        for machine in ((3, ("notlow", "under", "lowest"), "highest"), (3, ("over", "inner", "lowest"), "lowest")):
            self.assertEqual((splits(machine, 1, 4), splits(machine, 2, 4)), (True, False))
            chain = ((2, *machine[1:]), (1, *machine[1:]))
            self.assertIsNotNone(chain_model.fewest_apart((machine,), chain, 4))

    def test_no_such_number(self):
        for voices, keys in product((1, 2, 8), (3, 5, None)):
            for n in [0, -1, voices, voices + 1, 10 ** 999, -10 ** 999, *NO_INTEGERS]:
                with self.subTest(tell(n)):
                    self.assertRaises(BadQuestion, splits, (voices, ("lowest",), "none"), n, keys)
        self.assertRaises(BadQuestion, splits, ELDEST, 1, 3)

    def test_the_machine_comes_first_and_the_board_last(self):
        for (machine, place), n, keys in product(BAD_LINKS, (1, 0, None), (3, 5)):
            with self.subTest(tell(machine)), self.assertRaises(BadMachine) as caught:
                splits(machine, n, keys)
            self.assertEqual(caught.exception.place, place)
        for keys in NO_BOARDS:
            with self.subTest(tell(keys)), self.assertRaises(BadBoard) as caught:
                splits((2, ("eldest",), "none"), 1, keys)
            self.assertIs(caught.exception.many, keys)


class Refused(unittest.TestCase):

    def test_chains_come_first(self):
        for thing in NO_CHAINS:
            for call in (lambda: chain_trace(thing, None), lambda: chain_states(thing, (("press",),)),
                         lambda: chain_alike(thing, (None,), 5), lambda: chain_parting((ELDEST,), thing, 5),
                         lambda: chain_alike((ELDEST,), thing, 5), lambda: chain_parting(thing, None, 3)):
                with self.subTest(tell(thing)):
                    self.assertRaises(BadQuestion, call)
        for thing, place in BAD_LINKS:
            for call in (lambda: chain_trace((ELDEST, thing), None), lambda: chain_states((thing,), DOWN),
                         lambda: chain_alike((thing, None), (), 5), lambda: chain_parting((ELDEST,), (thing,), 5)):
                with self.subTest(tell(thing)), self.assertRaises(BadMachine) as caught:
                    call()
                self.assertEqual(caught.exception.place, place)

    def test_plays_and_then_the_pedal(self):
        bad = [(thing, ()) for thing in NO_TUPLES] + [((("up", 3),), (0,)), ((("press",), ("press",)), (1,)),
                                                      ((("press",), ("down", 88)), (1,))]
        for (play, place), look in product(bad, (chain_trace, chain_states)):
            with self.subTest(tell(play)), self.assertRaises(BadPlay) as caught:
                look((ELDEST, LOWEST), play)
            self.assertEqual(caught.exception.place, place)
        for play in ((("press",),), (*DOWN, ("press",)), (("press",), ("lift",), *DOWN)):
            for look, chain in product((chain_trace, chain_states), ((ELDEST,), (ELDEST, LOWEST, REFUSE))):
                self.assertRaises(BadQuestion, look, chain, play)

    def test_boards(self):
        for keys, look in product(NO_BOARDS, (chain_alike, chain_parting)):
            with self.subTest(tell(keys)), self.assertRaises(BadBoard) as caught:
                look((ELDEST,), (ELDEST, LOWEST), keys)
            self.assertIs(caught.exception.many, keys)


if __name__ == "__main__":
    unittest.main()
