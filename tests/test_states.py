"""STATEs of a MACHINE and their SOUND: points [4] and [7]."""

import unittest
from itertools import permutations, product

from stolenvoices import states
from stolenvoices.errors import BadMachine, BadState
from stolenvoices.states import is_state, need_state, sound
from tests.things import NO_INTEGERS, NO_TUPLES, NO_WORDS, OTHER_KINDS, tell

RETURNS = ("none", "eldest", "latest", "lowest", "highest")
MARKS = ("sounds", "kept", "waits")
ONE = (1, ("eldest",), "none")
TWO = (2, ("under", "lowest"), "highest")
THREE = (3, ("kept", "inner", "latest"), "none")
MANY = (8, ("kept", "inner", "notlow", "under", "over", "refuse"), "eldest")
MACHINES = (ONE, TWO, THREE, MANY)


class StateCase(unittest.TestCase):

    def refused(self, machine, thing, place):
        self.assertIs(is_state(machine, thing), False)
        for look in (need_state, sound):
            with self.assertRaises(BadState) as caught:
                look(machine, thing)
            self.assertEqual(caught.exception.place, place)
            self.assertIsInstance(caught.exception.place, tuple)

    def taken(self, machine, thing, keys):
        self.assertIs(need_state(machine, thing), thing)
        self.assertIs(is_state(machine, thing), True)
        found = sound(machine, thing)
        self.assertEqual(found, keys)
        self.assertIsInstance(found, tuple)


class GoodStates(StateCase):

    def test_start(self):
        self.assertEqual(states.START, (False, ()))
        self.assertIs(states.START[0], False)
        for machine in MACHINES:
            self.taken(machine, states.START, ())
            self.taken(machine, (True, ()), ())

    def test_the_example(self):
        self.taken(TWO, (False, ((5, "sounds"), (3, "waits"), (4, "sounds"))), (4, 5))

    def test_the_sound_ascends(self):
        for keys in permutations((0, 9, 10, 87)):
            row = tuple((key, "sounds") for key in keys)
            self.taken(MANY, (False, row), (0, 9, 10, 87))

    def test_kept_keys_are_in_the_sound_and_waiting_ones_are_not(self):
        row = ((9, "kept"), (3, "waits"), (7, "sounds"), (5, "waits"), (1, "kept"))
        self.taken(THREE, (True, row), (1, 7, 9))
        self.taken((3, ("eldest",), "latest"), (True, row), (1, 7, 9))

    def test_all_voices_in_use(self):
        for voices in range(1, 9):
            for returning in RETURNS:
                machine = (voices, ("eldest",), returning)
                row = tuple((80 + n, "sounds") for n in range(voices))
                keys = tuple(range(80, 80 + voices))
                self.taken(machine, (False, row), keys)
                self.taken(machine, (True, tuple((key, "kept") for key in keys)), keys)
                waits = tuple((key, "waits") for key in range(80))
                self.taken(machine, (False, row + waits), keys)
                self.taken(machine, (True, waits + row), keys)

    def test_all_keys_wait_beside_a_free_voice_without_return(self):
        for voices in range(1, 9):
            machine = (voices, ("refuse",), "none")
            self.taken(machine, (False, tuple((key, "waits") for key in range(88))), ())

    def test_free_voices(self):
        for returning in RETURNS:
            machine = (3, ("eldest",), returning)
            self.taken(machine, (True, ((0, "sounds"),)), (0,))
            self.taken(machine, (True, ((2, "kept"), (0, "sounds"))), (0, 2))

    def test_by_name(self):
        state = (False, ((4, "sounds"),))
        self.assertIs(need_state(thing=state, machine=ONE), state)
        self.assertIs(is_state(thing=state, machine=ONE), True)
        self.assertEqual(sound(state=state, machine=ONE), (4,))


class BadStates(StateCase):

    def test_no_tuple_of_two(self):
        for machine in MACHINES:
            for thing in NO_TUPLES:
                with self.subTest(tell(thing)):
                    self.refused(machine, thing, ())
            for thing in ((), (False,), (False, (), ()), [False, ()], {False: (), 1: ()}):
                self.refused(machine, thing, ())

    def test_pedal(self):
        for pedal in NO_TUPLES + [(), "False"]:
            if pedal is not True and pedal is not False:
                with self.subTest(tell(pedal)):
                    self.refused(TWO, (pedal, ()), ("pedal",))

    def test_row_that_is_no_tuple(self):
        for row in NO_TUPLES:
            with self.subTest(tell(row)):
                self.refused(TWO, (False, row), ("row",))
        self.refused(TWO, (False, [(5, "sounds")]), ("row",))

    def test_items_that_are_no_pairs(self):
        pair = (5, "sounds")
        others = [(), (6,), (6, "sounds", "sounds"), [6, "sounds"], ("sounds", 6), (pair, pair)]
        for item in NO_TUPLES + others:
            with self.subTest(tell(item)):
                self.refused(TWO, (False, (item,)), ("row", 0))
                self.refused(TWO, (True, (pair, item)), ("row", 1))

    def test_keys(self):
        for key in [-1, 88, 10 ** 999, *NO_INTEGERS]:
            with self.subTest(tell(key)):
                for mark in MARKS:
                    self.refused(MANY, (True, ((key, mark),)), ("row", 0))
                    self.refused(MANY, (True, ((5, "sounds"), (key, mark))), ("row", 1))

    def test_marks(self):
        for mark in ["", "up", "down", "Sounds", "sound", "wait", "eldest", *NO_WORDS]:
            with self.subTest(tell(mark)):
                self.refused(MANY, (True, ((5, mark),)), ("row", 0))
                self.refused(MANY, (True, ((5, "sounds"), (6, mark))), ("row", 1))

    def test_a_key_twice(self):
        for one, other in product(MARKS, MARKS):
            self.refused(THREE, (True, ((5, one), (5, other))), ("row", 1))
            self.refused(THREE, (True, ((5, one), (6, "waits"), (5, other))), ("row", 2))
            self.refused(THREE, (True, ((6, "waits"), (5, one), (0, "waits"), (5, other))),
                         ("row", 3))

    def test_kept_without_the_pedal(self):
        for machine in (TWO, THREE, MANY):
            self.refused(machine, (False, ((5, "kept"),)), ("row", 0))
            self.refused(machine, (False, ((6, "sounds"), (5, "kept"))), ("row", 1))

    def test_one_loud_pair_too_many(self):
        for voices in range(1, 9):
            for returning, mark in product(RETURNS, ("sounds", "kept")):
                machine = (voices, ("eldest",), returning)
                row = tuple((key, mark) for key in range(voices))
                for more in ("sounds", "kept"):
                    pair = (voices, more)
                    self.refused(machine, (True, (*row, pair)), ("row", voices))
                    self.refused(machine, (True, (*row, pair, (50, "sounds"), 0)),
                                 ("row", voices))
                    self.refused(machine, (True, (*row, (60, "waits"), pair)),
                                 ("row", voices + 1))

    def test_a_pair_waits_beside_a_free_voice(self):
        rows = (((5, "waits"),), ((4, "sounds"), (5, "waits")), ((5, "waits"), (4, "kept")),
                ((3, "waits"), (4, "sounds"), (5, "waits")))
        for returning in RETURNS:
            for row in rows:
                machine = (2, ("latest",), returning)
                if returning == "none":
                    self.assertIs(is_state(machine, (True, row)), True)
                else:
                    self.refused(machine, (True, row), ("waits",))

    def test_the_first_of_several_faults(self):
        self.refused(TWO, (0, [(5, "sounds")]), ("pedal",))
        self.refused(TWO, (None, ((5, "kept"),)), ("pedal",))
        self.refused(TWO, (0, (), ()), ())
        self.refused(TWO, (False, ((5, "waits"), (5, "waits"))), ("row", 1))
        self.refused(TWO, (False, ((5, "waits"), (4, "kept"))), ("row", 1))
        self.refused(TWO, (False, ((5, "waits"), (88, "sounds"))), ("row", 1))
        self.refused(TWO, (False, ((4, "kept"), (88, "sounds"))), ("row", 0))
        self.refused(ONE, (True, ((4, "kept"), (5, "sounds"), (4, "waits"))), ("row", 1))
        self.refused(ONE, (True, ((4, "kept"), (4, "waits"), (5, "sounds"))), ("row", 1))


class NoMachines(unittest.TestCase):

    def test_the_machine_is_looked_at_first(self):
        bad = [((0, ("eldest",), "none"), ("voices",)), ((1, [], "none"), ("criteria",)),
               ((1, ("kept", "kept"), "none"), ("criteria", 1)),
               ((1, ("eldest",), "refuse"), ("return",))]
        bad += [(thing, ()) for thing in NO_TUPLES]
        for machine, place in bad:
            for thing in [states.START, (0, ()), (False, ((5, "waits"),)), *OTHER_KINDS]:
                for look in (need_state, is_state, sound):
                    with self.subTest(machine=tell(machine), thing=tell(thing)):
                        with self.assertRaises(BadMachine) as caught:
                            look(machine, thing)
                        self.assertEqual(caught.exception.place, place)


class AllSmallStates(unittest.TestCase):

    def test_against_the_words_of_the_document(self):
        """Each ROW of up to three pairs of two KEYs, of each MACHINE of up to three VOICES."""
        pairs = list(product((0, 1), MARKS))
        rows = [row for many in range(4) for row in product(pairs, repeat=many)]
        for voices, returning, pedal in product((1, 2, 3), ("none", "lowest"), (True, False)):
            machine = (voices, ("eldest",), returning)
            for row in rows:
                keys = [key for key, _ in row]
                marks = [mark for _, mark in row]
                loud = len(marks) - marks.count("waits")
                good = (len(set(keys)) == len(keys) and loud <= voices
                        and (pedal or "kept" not in marks)
                        and (returning == "none" or "waits" not in marks or loud == voices))
                self.assertIs(is_state(machine, (pedal, row)), good, (machine, pedal, row))


if __name__ == "__main__":
    unittest.main()
