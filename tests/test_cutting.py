"""KEYs that can be CUT or SILENCED, and SURE KEYs: point [15]."""

import unittest
from itertools import product
from random import Random

from stolenvoices.cutting import cut_play, silent_play, sure_keys
from stolenvoices.errors import BadBoard, BadKey, BadMachine
from stolenvoices.plays import cuts, is_play, last_state
from tests import model
from tests.draws import draw_machine
from tests.test_boards import NO_BOARDS
from tests.things import NO_INTEGERS, NO_TUPLES, tell

BOARDS = model.BOARDS
ONE = (1, ("lowest",), "none")
# A KEY is cut if it is kept, otherwise the lowest one; so the highest one never waits.
KEPT = (2, ("kept", "lowest"), "none")


class Cutting(unittest.TestCase):

    def draws(self, seed, many):
        """Each BOARD with so many MACHINEs."""
        chance = Random(seed)
        for (keys, pedal), _ in product(BOARDS, range(many)):
            yield draw_machine(chance, chance.randint(1, 4)), keys, pedal

    def fewest_to_cut(self, machine, far, keys, pedal):
        """The KEYs that can be CUT, each with the fewest EVENTs to its being cut."""
        fewest = {}
        for (state,), many in far.items():
            for event in model.events_in(state, keys, pedal):
                for word, key in model.after(machine, state, event)[1]:
                    if word == "cut":
                        fewest[key] = min(many + 1, fewest.get(key, many + 1))
        return fewest

    def test_cut_plays_against_a_plain_search(self):
        seen = set()
        for machine, keys, pedal in self.draws(1, 50):
            far = model.distances([machine], keys, pedal)
            fewest = self.fewest_to_cut(machine, far, keys, pedal)
            for key in range(keys):
                play = cut_play(machine, key, keys, pedal=pedal)
                seen.add((pedal, play is None))
                if play is None:
                    self.assertNotIn(key, fewest, (machine, key, keys, pedal))
                    continue
                self.assertIsInstance(play, tuple)
                self.assertTrue(is_play(play) and model.is_board_play(play, keys, pedal), play)
                self.assertEqual(len(play), fewest[key], (machine, key, keys, pedal))
                self.assertEqual(cuts(machine, play)[-1], (len(play) - 1, key))
        self.assertEqual(len(seen), 4)

    def test_silent_plays_against_a_plain_search(self):
        seen = set()
        for machine, keys, pedal in self.draws(2, 50):
            far = model.distances([machine], keys, pedal)
            for key in range(keys):
                fewest = model.nearest(far, lambda state: (key, "waits") in state[1])
                play = silent_play(machine, key, keys, pedal=pedal)
                seen.add((pedal, play is None))
                if play is None:
                    self.assertIsNone(fewest, (machine, key, keys, pedal))
                    continue
                self.assertIsInstance(play, tuple)
                self.assertTrue(is_play(play) and model.is_board_play(play, keys, pedal), play)
                self.assertEqual(len(play), fewest, (machine, key, keys, pedal))
                self.assertIn((key, "waits"), last_state(machine, play)[1])
        self.assertEqual(len(seen), 4)

    def test_sure_keys_are_those_that_no_play_silences(self):
        seen = set()
        for machine, keys, pedal in self.draws(3, 60):
            found = sure_keys(machine, keys, pedal=pedal)
            silent = [silent_play(machine, key, keys, pedal=pedal) for key in range(keys)]
            self.assertEqual(found, tuple(key for key, play in enumerate(silent) if play is None))
            self.assertIsInstance(found, tuple)
            seen.add((pedal, 0 < len(found) < keys))
        self.assertEqual(len(seen), 4)

    def test_by_hand(self):
        self.assertIn(cut_play(ONE, 0, 2), [(("down", 0), ("down", 1))])
        self.assertEqual(cut_play(ONE, 1, 2), (("down", 1), ("down", 0)))
        self.assertEqual(silent_play(ONE, 1, 2), (("down", 1), ("down", 0)))
        self.assertEqual(sure_keys(ONE, 2), ())
        under = (1, ("under", "lowest"), "highest")
        self.assertEqual(sure_keys(under, 3), (2,))
        self.assertEqual(cut_play(under, 0, 2), (("down", 0), ("down", 1)))
        self.assertIsNone(cut_play(under, 2, 3))
        self.assertIsNone(silent_play(under, 2, 3))
        self.assertEqual(len(silent_play(under, 1, 3)), 2)
        for keys, pedal in BOARDS:
            refuse = (1, ("refuse",), "none")
            self.assertEqual([cut_play(refuse, key, keys, pedal=pedal) for key in range(keys)], [None] * keys)
            self.assertEqual(sure_keys((4, ("eldest",), "none"), keys, pedal=pedal), tuple(range(keys)))
        self.assertEqual(sure_keys((1, ("refuse",), "none"), 1, pedal=True), (0,))
        self.assertEqual(sure_keys((1, ("refuse",), "none"), 2, pedal=True), ())

    def test_a_sure_key_may_be_cut(self):
        self.assertEqual(sure_keys(KEPT, 3, pedal=True), (2,))
        self.assertIsNone(silent_play(KEPT, 2, 3, pedal=True))
        play = cut_play(KEPT, 2, 3, pedal=True)
        self.assertEqual(len(play), 5)
        self.assertEqual(cuts(KEPT, play), ((4, 2),))
        self.assertIsNone(cut_play(KEPT, 2, 3))

    def test_by_name(self):
        for look in (cut_play, silent_play):
            self.assertEqual(look(pedal=True, keys=2, key=1, machine=ONE), look(ONE, 1, 2, pedal=True))
            self.assertRaises(TypeError, look, ONE, 1, 2, True)
        self.assertEqual(sure_keys(pedal=True, keys=2, machine=ONE), sure_keys(ONE, 2, pedal=True))
        self.assertRaises(TypeError, sure_keys, ONE, 2, True)


class Refused(unittest.TestCase):

    def test_no_key_of_the_board(self):
        for keys, pedal in BOARDS:
            for key in [-1, keys, 4, 87, 88, 10 ** 999, *NO_INTEGERS]:
                for look in (cut_play, silent_play):
                    with self.subTest(tell(key)), self.assertRaises(BadKey) as caught:
                        look(ONE, key, keys, pedal=pedal)
                    self.assertIs(caught.exception.key, key)

    def test_the_board_comes_before_the_key(self):
        for (keys, pedal), key in product(NO_BOARDS, (0, 88, None)):
            for look in (cut_play, silent_play):
                with self.subTest(tell(keys)), self.assertRaises(BadBoard) as caught:
                    look(ONE, key, keys, pedal=pedal)
                self.assertIs(caught.exception.many, keys)
        for keys, pedal in NO_BOARDS:
            with self.assertRaises(BadBoard) as caught:
                sure_keys(ONE, keys, pedal=pedal)
            self.assertIs(caught.exception.many, keys)

    def test_the_machine_comes_first(self):
        bad = [((9, ("eldest",), "none"), ("voices",)), ((1, ("eldest",), 0), ("return",))]
        for machine, place in bad + [(thing, ()) for thing in NO_TUPLES]:
            for call in (lambda: cut_play(machine, 4, 5), lambda: silent_play(machine, 4, 5),
                         lambda: sure_keys(machine, 5), lambda: cut_play(machine, 4, 4)):
                with self.subTest(tell(machine)), self.assertRaises(BadMachine) as caught:
                    call()
                self.assertEqual(caught.exception.place, place)


if __name__ == "__main__":
    unittest.main()
