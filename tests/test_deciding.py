"""ALIKE, COVERS, PARTING, GAP and GROWS: points [12] and [13]."""

import unittest
from itertools import product
from random import Random

from stolenvoices.deciding import alike, covers, gap, grows, parting
from stolenvoices.errors import BadBoard, BadMachine, BadQuestion
from stolenvoices.machines import with_voices
from stolenvoices.plays import is_play, trace
from tests import model
from tests.draws import draw_machine, draw_near, draw_pairs
from tests.test_boards import NO_BOARDS
from tests.things import NO_TUPLES, tell

BOARDS = model.BOARDS
PAIR_CALLS = (alike, covers, parting, gap)


class DecidingCase(unittest.TestCase):

    def found(self, play, far, wanted, one, other, keys, pedal):
        """The PLAY has as few EVENTs as any behind which, and not before, what is wanted holds."""
        fewest = model.nearest(far, wanted)
        if fewest is None:
            self.assertIsNone(play, (one, other, keys, pedal))
            return
        self.assertIsInstance(play, tuple)
        self.assertTrue(is_play(play) and model.is_board_play(play, keys, pedal), play)
        self.assertEqual(len(play), fewest, (one, other, keys, pedal, play))
        states = list(zip(model.states_of(one, play), model.states_of(other, play)))
        holds = [wanted(*pair) for pair in states]
        self.assertEqual(holds, [False] * (len(play) - 1) + [True])

    def decided(self, one, other, keys, pedal):
        """All four answers about the two MACHINEs agree with a plain search."""
        far = model.distances([one, other], keys, pedal)
        split = parting(one, other, keys, pedal=pedal)
        self.found(split, far, model.sounds_differ, one, other, keys, pedal)
        self.assertIs(alike(one, other, keys, pedal=pedal), split is None)
        lack = gap(one, other, keys, pedal=pedal)
        self.found(lack, far, model.key_lacks, one, other, keys, pedal)
        self.assertIs(covers(one, other, keys, pedal=pedal), lack is None)


class Pairs(DecidingCase):

    def test_drawn_pairs_both_ways_round(self):
        chance = Random(1)
        for keys, pedal in BOARDS:
            for one, other in draw_pairs(chance, 60):
                self.decided(one, other, keys, pedal)
                self.decided(other, one, keys, pedal)

    def test_the_same_the_other_way_round(self):
        chance = Random(2)
        for keys, pedal in BOARDS:
            for one, other in draw_pairs(chance, 40):
                split = parting(one, other, keys, pedal=pedal)
                again = parting(other, one, keys, pedal=pedal)
                self.assertEqual(split is None, again is None)
                if split is not None:
                    self.assertEqual(len(split), len(again))
                    self.assertNotEqual(trace(one, split), trace(other, split))

    def test_against_all_short_plays(self):
        """No search at all: all PLAYs of up to 6 EVENTs, of MACHINEs with one VOICE and two."""
        chance = Random(3)
        for keys, pedal in ((1, True), (2, False), (2, True), (3, False)):
            plays = list(model.all_plays(keys, pedal, 6))
            for _ in range(6):
                one = draw_machine(chance, chance.randint(1, 2), 1)
                other = draw_near(chance, one)
                sounds = [(trace(one, play), trace(other, play)) for play in plays]
                partings = [len(mine) for mine, others in sounds if mine != others]
                gaps = [len(mine) for mine, others in sounds
                        if any(set(theirs) - set(ours) for ours, theirs in zip(mine, others))]
                for fewest, play in ((min(partings, default=None), parting(one, other, keys, pedal=pedal)),
                                     (min(gaps, default=None), gap(one, other, keys, pedal=pedal))):
                    if fewest is None:
                        self.assertTrue(play is None or len(play) > 6)
                    else:
                        self.assertEqual(len(play), fewest)

    def test_the_worked_example(self):
        eldest, refuse = (1, ("eldest",), "none"), (1, ("refuse",), "none")
        self.assertIs(alike(eldest, (1, ("lowest",), "none"), 4), True)
        self.assertEqual(len(parting(eldest, refuse, 2)), 2)

    def test_by_hand(self):
        eldest, refuse = (1, ("eldest",), "none"), (1, ("refuse",), "none")
        for pedal in (False, True):
            self.assertIs(alike(eldest, refuse, 1, pedal=pedal), True)
            self.assertIsNone(parting(eldest, refuse, 1, pedal=pedal))
            self.assertIsNone(gap(eldest, refuse, 1, pedal=pedal))
        self.assertIn(parting(eldest, refuse, 2), [(("down", 0), ("down", 1)), (("down", 1), ("down", 0))])
        self.assertIs(covers(eldest, refuse, 2), False)
        self.assertIs(covers((2, ("refuse",), "none"), (1, ("refuse",), "none"), 4), True)
        self.assertIs(covers((1, ("refuse",), "none"), (2, ("refuse",), "none"), 4), False)
        self.assertEqual(len(gap((1, ("refuse",), "none"), (2, ("refuse",), "none"), 4)), 2)

    def test_only_the_pedal_tells_them_apart(self):
        one, other = (1, ("eldest",), "none"), (1, ("eldest",), "latest")
        kept, plain = (2, ("kept", "latest"), "none"), (2, ("latest",), "none")
        self.assertIs(alike(kept, plain, 3), True)
        self.assertIs(alike(kept, plain, 3, pedal=True), False)
        self.assertEqual(len(parting(kept, plain, 3, pedal=True)), 5)
        self.assertEqual(len(parting(one, other, 2)), 3)

    def test_a_machine_and_itself(self):
        chance = Random(4)
        for keys, pedal in BOARDS:
            machine = draw_machine(chance, 2)
            self.assertIs(alike(machine, machine, keys, pedal=pedal), True)
            self.assertIs(covers(machine, machine, keys, pedal=pedal), True)

    def test_by_name(self):
        one, other = (1, ("eldest",), "none"), (1, ("refuse",), "none")
        for look in PAIR_CALLS:
            self.assertEqual(look(pedal=True, keys=2, other=other, one=one), look(one, other, 2, pedal=True))
            self.assertRaises(TypeError, look, one, other, 2, True)
        self.assertIs(grows(pedal=True, keys=2, machine=one), grows(one, 2, pedal=True))
        self.assertRaises(TypeError, grows, one, 2, True)


class Facts(DecidingCase):

    def test_alike_exactly_if_each_covers_the_other(self):
        chance = Random(5)
        seen = set()
        for keys, pedal in BOARDS:
            for one, other in draw_pairs(chance, 60):
                both = (covers(one, other, keys, pedal=pedal), covers(other, one, keys, pedal=pedal))
                seen.add(both)
                self.assertIs(alike(one, other, keys, pedal=pedal), both == (True, True))
        self.assertEqual(len(seen), 4)

    def test_covers_goes_on(self):
        chance = Random(6)
        many = 0
        for keys, pedal in BOARDS * 12:
            low = draw_machine(chance, 1, chance.randint(0, 2))
            middle = with_voices(draw_near(chance, low), 2)
            high = with_voices(draw_near(chance, middle), 3)
            if covers(middle, low, keys, pedal=pedal) and covers(high, middle, keys, pedal=pedal):
                many += 1
                self.assertIs(covers(high, low, keys, pedal=pedal), True)
        self.assertGreater(many, 10)


class Grows(DecidingCase):

    EXAMPLE = (2, ("notlow", "lowest"), "none")

    def test_the_example(self):
        self.assertIs(grows(self.EXAMPLE, 4), False)
        more = with_voices(self.EXAMPLE, 3)
        play = (("down", 0), ("down", 1), ("down", 2), ("up", 0), ("down", 3), ("down", 0))
        self.assertIn(2, trace(self.EXAMPLE, play)[-1])
        self.assertNotIn(2, trace(more, play)[-1])
        self.assertEqual(len(gap(more, self.EXAMPLE, 4)), len(play))

    def test_pure_rules_grow_without_a_pedal(self):
        for rule, voices, keys in product(model.PURE, range(1, 8), range(1, 5)):
            self.assertIs(grows((voices, *rule), keys), True)

    def test_against_a_plain_search(self):
        chance = Random(7)
        machines = [draw_machine(chance, number % 4 + 1, number % 3) for number in range(40)]
        machines += [(2, (word, end), "none") for word in model.FILTERS for end in model.ENDS]
        seen = set()
        for (keys, pedal), machine in product(BOARDS, machines):
            far = model.distances([with_voices(machine, machine[0] + 1), machine], keys, pedal)
            wanted = model.nearest(far, model.key_lacks) is None
            seen.add((keys, pedal, wanted))
            self.assertIs(grows(machine, keys, pedal=pedal), wanted, (machine, keys, pedal))
        self.assertTrue({(4, False, True), (4, False, False)} <= seen)

    def test_7_and_8_voices(self):
        self.assertIs(grows((7, ("eldest",), "none"), 4), True)
        for criteria, (keys, pedal) in product((("eldest",), ("kept", "refuse")), BOARDS):
            self.assertRaises(BadQuestion, grows, (8, criteria, "none"), keys, pedal=pedal)

    def test_bad_question_comes_behind_the_others(self):
        for keys, pedal in NO_BOARDS:
            for voices in (1, 8):
                with self.assertRaises(BadBoard) as caught:
                    grows((voices, ("eldest",), "none"), keys, pedal=pedal)
                self.assertIs(caught.exception.many, keys)
        for machine in ((8, ("kept",), "none"), (9, ("eldest",), "none"), (8, ("eldest",), "up")):
            for keys in (4, 5):
                self.assertRaises(BadMachine, grows, machine, keys)


class Refused(DecidingCase):

    GOOD = (1, ("eldest",), "none")

    def test_machines(self):
        bad = [((0, ("eldest",), "none"), ("voices",)), ((1, ("kept", "kept", "eldest"), "none"),
               ("criteria", 1)), ((1, ("eldest",), "refuse"), ("return",))]
        bad += [(thing, ()) for thing in NO_TUPLES]
        for look, (machine, place) in product(PAIR_CALLS, bad):
            for one, other in ((machine, self.GOOD), (self.GOOD, machine), (machine, (9, (), 0))):
                with self.subTest(tell(machine)), self.assertRaises(BadMachine) as caught:
                    look(one, other, 5)
                self.assertEqual(caught.exception.place, place)
            with self.assertRaises(BadMachine) as caught:
                grows(machine, 0)
            self.assertEqual(caught.exception.place, place)

    def test_boards(self):
        for look, (keys, pedal) in product(PAIR_CALLS, NO_BOARDS):
            with self.subTest(tell(keys)), self.assertRaises(BadBoard) as caught:
                look(self.GOOD, self.GOOD, keys, pedal=pedal)
            self.assertIs(caught.exception.many, keys)


if __name__ == "__main__":
    unittest.main()
