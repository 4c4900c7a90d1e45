"""NEEDLESS FILTERs, LEAN forms and groups: points [12] and [16]."""

import time
import unittest
from itertools import product
from random import Random

from stolenvoices.deciding import alike
from stolenvoices.errors import BadBoard, BadMachine, BadQuestion
from stolenvoices.lists import groups, lean, needless
from stolenvoices.machines import need_machine
from tests import model
from tests.draws import draw_machine, draw_near
from tests.test_boards import NO_BOARDS
from tests.things import NO_TUPLES, OTHER_KINDS, exchanged, tell

BOARDS = model.BOARDS
ELDEST = (1, ("eldest",), "none")


def plainly_alike(one, other, keys, pedal):
    return model.nearest(model.distances([one, other], keys, pedal), model.sounds_differ) is None


def left_out(machine, number):
    voices, criteria, returning = machine
    return voices, tuple(word for at, word in enumerate(criteria) if at != number), returning


class Needless(unittest.TestCase):

    def test_each_filter_by_itself(self):
        chance = Random(1)
        seen = set()
        for (keys, pedal), filters in product(BOARDS, range(6)):
            for _ in range(6):
                machine = draw_machine(chance, chance.randint(1, 3), filters)
                found = needless(machine, keys, pedal=pedal)
                wanted = [number for number in range(filters)
                          if plainly_alike(machine, left_out(machine, number), keys, pedal)]
                self.assertEqual(found, wanted, (machine, keys, pedal))
                self.assertIsInstance(found, list)
                seen.add((filters, len(found)))
        self.assertTrue({(5, 5), (2, 1), (1, 0), (0, 0)} <= seen)

    def test_each_word_alone(self):
        for word in model.FILTERS:
            machine = (2, (word, "refuse" if word == "kept" else "eldest"), "none")
            for keys, pedal in BOARDS:
                wanted = [0] if plainly_alike(machine, left_out(machine, 0), keys, pedal) else []
                self.assertEqual(needless(machine, keys, pedal=pedal), wanted)
            self.assertEqual(needless(machine, 2), [0])
        self.assertEqual(needless((2, ("notlow", "eldest"), "none"), 3), [])
        self.assertEqual(needless((2, ("kept", "eldest"), "none"), 3), [0])
        self.assertEqual(needless((2, ("kept", "eldest"), "none"), 3, pedal=True), [])

    def test_one_that_another_one_makes_needless(self):
        # "under" takes all that "below" takes, but not the other way round.
        machine = (2, ("below", "under", "lowest"), "none")
        self.assertEqual(needless(machine, 4), [0])
        machine = (2, ("under", "below", "lowest"), "none")
        self.assertEqual(needless(machine, 4), [1])

    def test_the_facts(self):
        chance = Random(2)
        for (keys, pedal), _ in product(BOARDS, range(15)):
            many = chance.randint(1, 5)
            machine = draw_machine(chance, None, many)
            if not pedal and "kept" in machine[1]:
                self.assertIn(machine[1].index("kept"), needless(machine, keys))
            enough = (chance.randint(keys, 8), *machine[1:])
            self.assertEqual(needless(enough, keys, pedal=pedal), list(range(many)))
            found = needless((1, *machine[1:]), keys, pedal=pedal)
            for number, word in enumerate(machine[1][:-1]):
                self.assertTrue(number in found or word in ("under", "over"))


class Lean(unittest.TestCase):

    def plainly_lean(self, machine, keys, pedal):
        for number in range(len(machine[1]) - 1):
            if plainly_alike(machine, left_out(machine, number), keys, pedal):
                return self.plainly_lean(left_out(machine, number), keys, pedal)
        return machine

    def test_the_first_needless_filter_is_left_out_and_so_on(self):
        chance = Random(3)
        for (keys, pedal), filters in product(BOARDS, range(6)):
            for _ in range(4):
                machine = draw_machine(chance, chance.randint(1, 3), filters)
                found = lean(machine, keys, pedal=pedal)
                self.assertEqual(found, self.plainly_lean(machine, keys, pedal), (machine, keys, pedal))

    def test_alike_without_a_needless_filter(self):
        chance = Random(4)
        for (keys, pedal), _ in product(BOARDS, range(25)):
            machine = draw_machine(chance, chance.randint(1, 3))
            found = lean(machine, keys, pedal=pedal)
            self.assertIs(need_machine(found), found)
            self.assertIs(alike(machine, found, keys, pedal=pedal), True)
            self.assertEqual(needless(found, keys, pedal=pedal), [])
            self.assertEqual(lean(found, keys, pedal=pedal), found)

    def test_by_hand(self):
        machine = (2, ("kept", "notlow", "eldest"), "latest")
        self.assertEqual(lean(machine, 2), (2, ("eldest",), "latest"))
        self.assertEqual(lean(machine, 3), (2, ("notlow", "eldest"), "latest"))
        self.assertEqual(lean(machine, 3, pedal=True), machine)
        for filters in ((), ("inner",), ("inner", "notlow", "nothigh", "kept", "above")):
            self.assertEqual(lean((1, (*filters, "latest"), "none"), 4), (1, ("latest",), "none"))
        self.assertEqual(lean((1, ("inner", "under", "lowest"), "none"), 2), (1, ("under", "lowest"), "none"))

    def test_which_one_is_left_out_first_counts(self):
        # Of two FILTERs each of which is NEEDLESS only beside the other one the second stays.
        chance = Random(5)
        many = 0
        for _ in range(150):
            machine = draw_machine(chance, 3, 2)
            if needless(machine, 4) == [0, 1] and needless(left_out(machine, 0), 4) == []:
                many += 1
                self.assertEqual(lean(machine, 4), left_out(machine, 0))
        self.assertGreater(many, 2)


class Groups(unittest.TestCase):

    def plain_groups(self, machines, keys, pedal):
        found = {}
        for number, machine in enumerate(machines):
            first = next((at for at in found if plainly_alike(machines[at], machine, keys, pedal)), number)
            found.setdefault(first, []).append(number)
        return list(found.values())

    def test_none_and_one(self):
        for keys, pedal in BOARDS:
            self.assertEqual(groups((), keys, pedal=pedal), [])
            self.assertEqual(groups((ELDEST,), keys, pedal=pedal), [[0]])
            self.assertEqual(groups((ELDEST, ELDEST), keys, pedal=pedal), [[0, 1]])

    def test_by_hand(self):
        lowest, refuse = (1, ("lowest",), "none"), (1, ("refuse",), "none")
        self.assertEqual(groups((refuse, ELDEST, lowest, refuse), 4), [[0, 3], [1, 2]])
        self.assertEqual(groups((ELDEST, refuse, lowest, (1, ("kept", "latest"), "none")), 2),
                         [[0, 2, 3], [1]])
        self.assertEqual(groups((ELDEST, refuse), 1), [[0, 1]])

    def test_twenty_some_of_them_twice(self):
        chance = Random(6)
        for keys, pedal in BOARDS:
            for voices in (1, 2, 3):
                some = [draw_machine(chance, voices, chance.randint(0, 2)) for _ in range(8)]
                some += [draw_near(chance, machine) for machine in some]
                machines = tuple(chance.choice(some) for _ in range(20))
                found = groups(machines, keys, pedal=pedal)
                self.assertEqual(found, self.plain_groups(machines, keys, pedal))
                self.assertIsInstance(found, list)
                self.assertTrue(all(isinstance(group, list) for group in found))

    def test_a_few(self):
        chance = Random(7)
        for (keys, pedal), many in product(BOARDS, range(2, 9)):
            machines = tuple(draw_machine(chance, chance.randint(1, 2), 1) for _ in range(many))
            self.assertEqual(groups(machines, keys, pedal=pedal), self.plain_groups(machines, keys, pedal))

    def test_by_name(self):
        machine = (2, ("kept", "eldest"), "none")
        self.assertEqual(groups(pedal=True, keys=3, machines=(machine,)), [[0]])
        self.assertEqual(needless(pedal=True, keys=3, machine=machine), [])
        self.assertEqual(lean(pedal=True, keys=3, machine=machine), machine)
        for look, first in ((groups, (machine,)), (needless, machine), (lean, machine)):
            self.assertRaises(TypeError, look, first, 3, True)


class Refused(unittest.TestCase):

    def test_no_tuple_of_at_most_twenty(self):
        for thing in NO_TUPLES + [[ELDEST], {ELDEST: 0}, (ELDEST,) * 21, (None,) * 21, (ELDEST,) * 300]:
            for keys in (4, 5):
                with self.subTest(tell(thing)):
                    self.assertRaises(BadQuestion, groups, thing, keys)
        self.assertEqual(groups((ELDEST,) * 20, 1), [list(range(20))])

    def test_the_first_item_that_is_no_machine(self):
        bad = [((0, ("eldest",), "none"), ("voices",)), ((1, ("kept", "kept", "eldest"), "none"),
               ("criteria", 1)), ((1, ("eldest",), "refuse"), ("return",))]
        bad += [(thing, ()) for thing in NO_TUPLES]
        for (thing, place), keys, before in product(bad, (4, 5), (0, 1, 18)):
            for machines in ((ELDEST,) * before + (thing,), (ELDEST,) * before + (thing, (1, (), 0))):
                with self.subTest(tell(thing)), self.assertRaises(BadMachine) as caught:
                    groups(machines, keys)
                self.assertEqual(caught.exception.place, place)
        for machines in exchanged(((2, ("kept", "eldest"), "none"),), OTHER_KINDS):
            error = BadMachine if isinstance(machines, tuple) else BadQuestion
            self.assertRaises(error, groups, machines, 5)

    def test_machines_then_the_board(self):
        for machine in NO_TUPLES + [(1, ("eldest",), 0), (1, ("kept",), "none")]:
            for look in (needless, lean):
                with self.subTest(tell(machine)):
                    self.assertRaises(BadMachine, look, machine, 5)
        for keys, pedal in NO_BOARDS:
            for look, first in ((needless, ELDEST), (lean, ELDEST), (groups, (ELDEST,)), (groups, ())):
                with self.subTest(tell(keys)), self.assertRaises(BadBoard) as caught:
                    look(first, keys, pedal=pedal)
                self.assertIs(caught.exception.many, keys)


class Seconds(unittest.TestCase):

    def test_the_largest_boards_are_answered_within_a_few_seconds(self):
        # These two ask the most of all calls; the others are a small part of them.
        long = (2, ("kept", "notlow", "nothigh", "inner", "above", "lowest"), "none")
        many = tuple((2, (word, end), "none") for word in ("inner", "kept", "notlow", "nothigh")
                     for end in model.ENDS)
        self.assertEqual(len(many), 20)
        for keys, pedal in ((4, False), (3, True)):
            for look, first in ((lean, long), (groups, many)):
                before = time.perf_counter()
                look(first, keys, pedal=pedal)
                self.assertLess(time.perf_counter() - before, 5)


if __name__ == "__main__":
    unittest.main()
