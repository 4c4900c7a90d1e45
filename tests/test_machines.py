"""KEYs and MACHINEs: points [2] and [3], the MIRRORED MACHINE of [17]."""

import unittest
from itertools import permutations, product

from stolenvoices import machines
from stolenvoices.errors import BadMachine
from stolenvoices.machines import is_key, is_machine, mirrored, need_machine, with_voices
from tests.things import NO_INTEGERS, NO_TUPLES, NO_WORDS, OTHER_KINDS, tell

FILTERS = ("kept", "inner", "notlow", "nothigh", "below", "above", "under", "over")
ENDS = ("eldest", "latest", "lowest", "highest", "refuse")
RETURNS = ("none", "eldest", "latest", "lowest", "highest")
LONGEST = ("kept", "inner", "notlow", "under", "over", "refuse")
MACHINES = [
    (1, ("eldest",), "none"),
    (2, ("under", "lowest"), "highest"),
    (3, ("kept", "eldest"), "latest"),
    (8, LONGEST, "lowest"),
    (5, ("nothigh", "below", "above", "latest"), "eldest"),
]


class MachineCase(unittest.TestCase):

    def refused(self, thing, place):
        """The thing is no MACHINE, and the place is told, whoever looks."""
        self.assertIs(is_machine(thing), False)
        for look in (need_machine, mirrored, lambda other: with_voices(other, 2)):
            with self.assertRaises(BadMachine) as caught:
                look(thing)
            self.assertEqual(caught.exception.place, place)
            self.assertIsInstance(caught.exception.place, tuple)

    def taken(self, thing):
        self.assertIs(need_machine(thing), thing)
        self.assertIs(is_machine(thing), True)


class Constants(unittest.TestCase):

    def test_words(self):
        self.assertEqual(machines.FILTERS, FILTERS)
        self.assertEqual(machines.ENDS, ENDS)
        self.assertEqual(machines.RETURNS, RETURNS)

    def test_numbers(self):
        self.assertEqual(machines.MOST_VOICES, 8)
        self.assertEqual(machines.MOST_CRITERIA, 6)
        self.assertEqual(machines.MOST_KEY, 87)


class Keys(unittest.TestCase):

    def test_integers_from_0_to_87(self):
        for key in range(-200, 300):
            self.assertIs(is_key(key), 0 <= key <= 87)
        for key in (10 ** 999, -10 ** 999):
            self.assertIs(is_key(key), False)

    def test_other_kinds(self):
        for thing in NO_INTEGERS:
            with self.subTest(tell(thing)):
                self.assertIs(is_key(thing), False)

    def test_by_name(self):
        self.assertIs(is_key(thing=87), True)


class GoodMachines(MachineCase):

    def test_all_numbers_of_voices(self):
        for voices in range(1, 9):
            self.taken((voices, ("eldest",), "none"))

    def test_all_returns_and_ends(self):
        for end, returning in product(ENDS, RETURNS):
            self.taken((1, (end,), returning))
            self.taken((8, ("over", end), returning))

    def test_all_lists_of_up_to_four_words(self):
        for many in range(4):
            for filters in permutations(FILTERS, many):
                for end in ENDS:
                    self.assertIs(is_machine((4, (*filters, end), "none")), True)

    def test_six_criteria(self):
        for filters in permutations(FILTERS[:5]):
            self.taken((8, (*filters, "refuse"), "highest"))
        self.taken((8, (*FILTERS[3:], "lowest"), "highest"))

    def test_by_name(self):
        machine = MACHINES[0]
        self.assertIs(need_machine(thing=machine), machine)
        self.assertIs(is_machine(thing=machine), True)
        self.assertIs(is_machine(thing=0), False)
        self.assertEqual(mirrored(machine=machine), machine)
        self.assertEqual(with_voices(voices=2, machine=machine), (2, ("eldest",), "none"))


class BadMachines(MachineCase):

    def test_no_tuple_of_three(self):
        for thing in NO_TUPLES:
            with self.subTest(tell(thing)):
                self.refused(thing, ())
        good = (1, ("eldest",), "none")
        for thing in ((), (1,), good[:2], (*good, "none"), (*good, *good), list(good)):
            self.refused(thing, ())
        self.refused({0: 1, 1: ("eldest",), 2: "none"}, ())

    def test_voices(self):
        for voices in [0, 9, -1, 10, 10 ** 999, *NO_INTEGERS]:
            with self.subTest(tell(voices)):
                self.refused((voices, ("eldest",), "none"), ("voices",))

    def test_criteria_that_are_no_tuple_of_one_to_six(self):
        for criteria in NO_TUPLES:
            with self.subTest(tell(criteria)):
                self.refused((1, criteria, "none"), ("criteria",))
        for criteria in ((), (*FILTERS[:6], "eldest"), (*FILTERS, "eldest"), ["eldest"], "eldest"):
            self.refused((1, criteria, "none"), ("criteria",))
        self.refused((1, (None,) * 7, "none"), ("criteria",))

    def test_the_examples(self):
        self.refused((1, ("eldest", "eldest"), "none"), ("criteria", 0))
        self.refused((1, ("kept", "kept", "eldest"), "none"), ("criteria", 1))

    def test_an_end_ahead_of_the_last_place(self):
        for end in ENDS:
            self.refused((1, (end, "eldest"), "none"), ("criteria", 0))
            self.refused((1, ("kept", end, "over", "eldest"), "none"), ("criteria", 1))
            self.refused((1, (*LONGEST[:4], end, "eldest"), "none"), ("criteria", 4))

    def test_a_filter_as_the_last_word(self):
        for word in FILTERS:
            self.refused((1, (word,), "none"), ("criteria", 0))
            self.refused((1, (*LONGEST[:5], word), "none"), ("criteria", 5))
        self.refused((1, ("kept", "under"), "none"), ("criteria", 1))

    def test_a_filter_twice(self):
        for word in FILTERS:
            self.refused((1, (word, word, "eldest"), "none"), ("criteria", 1))
        for word in LONGEST[:4]:
            self.refused((1, (*LONGEST[:4], word, "eldest"), "none"), ("criteria", 4))

    def test_words_of_other_lists(self):
        for word in ("none", "", "Kept", "kept ", "sounds", "waits", "eldest,", "down", "least"):
            self.refused((1, (word,), "none"), ("criteria", 0))
            self.refused((1, (word, "eldest"), "none"), ("criteria", 0))
            self.refused((1, ("kept", word), "none"), ("criteria", 1))

    def test_criteria_of_other_kinds(self):
        for word in NO_WORDS:
            with self.subTest(tell(word)):
                self.refused((1, (word,), "none"), ("criteria", 0))
                self.refused((1, (word, "eldest"), "none"), ("criteria", 0))
                self.refused((1, ("kept", word, "eldest"), "none"), ("criteria", 1))
                self.refused((1, ("kept", "over", word), "none"), ("criteria", 2))

    def test_returns(self):
        for word in [*FILTERS, "refuse", "", "None", "none ", "non", "sounds", *NO_WORDS]:
            with self.subTest(tell(word)):
                self.refused((1, ("eldest",), word), ("return",))

    def test_just_the_lists_of_words_that_are_told(self):
        words = [*FILTERS, *ENDS, "none"]
        for many, good in ((1, 5), (2, 8 * 5), (3, 8 * 7 * 5)):
            rows = product(words, repeat=many)
            self.assertEqual(sum(is_machine((1, row, "none")) for row in rows), good)

    def test_the_first_of_several_faults(self):
        self.refused((0, (), "refuse"), ("voices",))
        self.refused((9, ("kept",), "none"), ("voices",))
        self.refused((True, ("eldest",), None), ("voices",))
        self.refused((1, (), "refuse"), ("criteria",))
        self.refused((1, ["eldest"], 0), ("criteria",))
        self.refused((1, ("kept", "kept"), "refuse"), ("criteria", 1))
        self.refused((1, ("eldest", "kept"), "none"), ("criteria", 0))
        self.refused((1, ("over", "over", "over", "over"), "none"), ("criteria", 1))
        self.refused((1, ("over", "lowest", None, "lowest"), "over"), ("criteria", 1))
        self.refused((0, ("eldest",)), ())


class OtherVoices(MachineCase):

    def test_good_numbers(self):
        for machine in MACHINES:
            for voices in range(1, 9):
                self.assertEqual(with_voices(machine, voices), (voices, machine[1], machine[2]))

    def test_bad_numbers(self):
        for machine in MACHINES:
            for voices in [0, 9, -1, 10 ** 999, *NO_INTEGERS]:
                with self.subTest(tell(voices)):
                    with self.assertRaises(BadMachine) as caught:
                        with_voices(machine, voices)
                    self.assertEqual(caught.exception.place, ("voices",))

    def test_the_machine_is_looked_at_first(self):
        for voices in [0, 2, *OTHER_KINDS]:
            for machine, place in (((1, ("kept",), "none"), ("criteria", 0)), (None, ()),
                                   ((1, ("eldest",), 0), ("return",)),
                                   ((0, ("eldest",), "none"), ("voices",))):
                with self.assertRaises(BadMachine) as caught:
                    with_voices(machine, voices)
                self.assertEqual(caught.exception.place, place)


class Mirrored(MachineCase):

    def test_the_words(self):
        ends = (("lowest", "highest"), ("highest", "lowest"), ("eldest", "eldest"),
                ("latest", "latest"))
        filters = (("notlow", "nothigh"), ("nothigh", "notlow"), ("below", "above"),
                   ("above", "below"), ("under", "over"), ("over", "under"), ("kept", "kept"),
                   ("inner", "inner"))
        for word, other in (*ends, ("refuse", "refuse")):
            self.assertEqual(mirrored((3, (word,), "none")), (3, (other,), "none"))
        for word, other in (*ends, ("none", "none")):
            self.assertEqual(mirrored((3, ("eldest",), word)), (3, ("eldest",), other))
        for word, other in filters:
            self.assertEqual(mirrored((8, (word, "latest"), "none")),
                             (8, (other, "latest"), "none"))

    def test_the_order_stays(self):
        machine = (8, ("notlow", "kept", "above", "under", "over", "lowest"), "highest")
        other = (8, ("nothigh", "kept", "below", "over", "under", "highest"), "lowest")
        self.assertEqual(mirrored(machine), other)
        self.assertEqual(mirrored(other), machine)

    def test_twice_it_is_the_machine_itself(self):
        for filters in permutations(FILTERS, 3):
            for end, returning in product(ENDS, RETURNS):
                machine = (6, (*filters, end), returning)
                other = mirrored(machine)
                self.taken(other)
                self.assertEqual(mirrored(other), machine)


if __name__ == "__main__":
    unittest.main()
