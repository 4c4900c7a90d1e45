"""BOARDs, their EVENTs and the STATEs to which their PLAYs lead: point [11]."""

import unittest
from itertools import product
from random import Random

from stolenvoices.boards import events_at, need_board, reached
from stolenvoices.errors import BadBoard, BadMachine
from stolenvoices.plays import last_state
from stolenvoices.states import START, is_state
from stolenvoices.steps import step
from tests import model
from tests.draws import draw_machine, draw_state
from tests.things import NO_INTEGERS, NO_TUPLES, tell

ONE = (1, ("eldest",), "none")
NO_PEDALS = [thing for thing in NO_TUPLES if thing is not True and thing is not False] + [(), (True,)]
NO_BOARDS = [(keys, pedal) for keys in (0, -1, 5, 88, 10 ** 999, -10 ** 999, *NO_INTEGERS)
             for pedal in (False, True)]
NO_BOARDS += [(4, True), (5, True)]
NO_BOARDS += [(keys, pedal) for keys in (1, 3, 4, 5, None) for pedal in NO_PEDALS]


class BoardCase(unittest.TestCase):

    def refused(self, keys, pedal, call):
        with self.subTest(keys=tell(keys), pedal=tell(pedal)):
            with self.assertRaises(BadBoard) as caught:
                call(keys, pedal)
            self.assertIs(caught.exception.many, keys)


class Boards(BoardCase):

    def test_boards(self):
        for keys, pedal in model.BOARDS:
            self.assertIsNone(need_board(keys, pedal))
            self.assertIsNone(need_board(pedal=pedal, keys=keys))

    def test_no_boards(self):
        for keys, pedal in NO_BOARDS:
            self.refused(keys, pedal, need_board)
            self.refused(keys, pedal, lambda keys, pedal: events_at(START, keys, pedal=pedal))
            self.refused(keys, pedal, lambda keys, pedal: reached(ONE, keys, pedal=pedal))

    def test_the_pedal_is_passed_by_name_only(self):
        self.assertRaises(TypeError, events_at, START, 2, True)
        self.assertRaises(TypeError, reached, ONE, 2, True)
        self.assertRaises(TypeError, need_board, 2)

    def test_the_machine_is_looked_at_first(self):
        bad = [((0, ("eldest",), "none"), ("voices",)), ((1, ("lowest", "lowest"), "none"),
               ("criteria", 0)), ((1, ("eldest",), "refuse"), ("return",)), (None, ()), ([], ())]
        for (machine, place), (keys, pedal) in product(bad, [*model.BOARDS, *NO_BOARDS]):
            with self.assertRaises(BadMachine) as caught:
                reached(machine, keys, pedal=pedal)
            self.assertEqual(caught.exception.place, place)


class Events(BoardCase):

    def test_at_the_start(self):
        self.assertEqual(events_at(START, 1), [("down", 0)])
        self.assertEqual(events_at(START, 3), [("down", 0), ("down", 1), ("down", 2)])
        self.assertEqual(events_at(START, 2, pedal=True), [("down", 0), ("down", 1), ("press",)])

    def test_ascending(self):
        state = (True, ((2, "waits"), (1, "kept"), (0, "sounds")))
        self.assertEqual(events_at(state, 3, pedal=True), [("down", 1), ("lift",), ("up", 0), ("up", 2)])
        self.assertEqual(events_at(state, 4), [("down", 1), ("down", 3), ("up", 0), ("up", 2)])
        state = (False, ((2, "waits"), (0, "sounds")))
        self.assertEqual(events_at(state, 3, pedal=True), [("down", 1), ("press",), ("up", 0), ("up", 2)])

    def test_only_those_of_the_board(self):
        state = (True, ((3, "waits"), (1, "sounds"), (87, "kept"), (40, "sounds")))
        self.assertEqual(events_at(state, 1), [("down", 0)])
        self.assertEqual(events_at(state, 2, pedal=False), [("down", 0), ("up", 1)])
        self.assertEqual(events_at(state, 2, pedal=True), [("down", 0), ("lift",), ("up", 1)])
        self.assertEqual(events_at(state, 4), [("down", 0), ("down", 2), ("up", 1), ("up", 3)])

    def test_drawn_states(self):
        chance = Random(1)
        for _ in range(400):
            state = draw_state(chance, draw_machine(chance), range(6))
            for keys, pedal in model.BOARDS:
                found = events_at(keys=keys, state=state, pedal=pedal)
                self.assertEqual(found, sorted(model.events_in(state, keys, pedal)))
                self.assertIsInstance(found, list)

    def test_the_list_is_the_callers_own(self):
        found = events_at(START, 2)
        found.clear()
        self.assertEqual(len(events_at(START, 2)), 2)


class Reached(BoardCase):

    def test_one_key(self):
        sounds, kept = ((0, "sounds"),), ((0, "kept"),)
        for machine in (ONE, (8, ("kept", "refuse"), "lowest")):
            self.assertEqual(reached(machine, 1), (START, (False, sounds)))
            self.assertEqual(reached(machine, 1, pedal=True),
                             (START, (False, sounds), (True, ()), (True, kept), (True, sounds)))

    def test_two_keys(self):
        rows = ((), ((0, "sounds"),), ((0, "waits"),), ((0, "waits"), (1, "sounds")),
                ((1, "sounds"),), ((1, "sounds"), (0, "waits")))
        self.assertEqual(reached((1, ("under", "eldest"), "none"), 2),
                         tuple((False, row) for row in rows))

    def test_against_a_plain_search(self):
        chance = Random(2)
        for (keys, pedal), voices in product(model.BOARDS, range(1, 6)):
            for _ in range(4):
                machine = draw_machine(chance, voices)
                wanted = sorted(states for states, in model.distances([machine], keys, pedal))
                self.assertEqual(reached(machine, keys, pedal=pedal), tuple(wanted))

    def test_closed_and_ascending(self):
        chance = Random(3)
        for keys, pedal in model.BOARDS:
            machine = draw_machine(chance, chance.randint(1, 3))
            found = reached(machine, keys=keys, pedal=pedal)
            self.assertIsInstance(found, tuple)
            self.assertEqual(found[0], START)
            self.assertTrue(all(one < other for one, other in zip(found, found[1:])))
            for state in found:
                self.assertTrue(is_state(machine, state))
                for event in events_at(state, keys, pedal=pedal):
                    self.assertIn(step(machine, state, event), found)

    def test_all_short_plays_lead_to_them(self):
        for machine in ((1, ("over", "latest"), "eldest"), (2, ("kept", "lowest"), "none")):
            for keys, pedal in ((2, False), (2, True), (1, True)):
                behind = {last_state(machine, play) for play in model.all_plays(keys, pedal, 7)}
                self.assertEqual(reached(machine, keys, pedal=pedal), tuple(sorted(behind)))


if __name__ == "__main__":
    unittest.main()
