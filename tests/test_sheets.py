"""Sheets: stolenvoices/sheets.py."""

import unittest
from itertools import product
from random import Random

from stolenvoices.errors import BadMachine, BadPlay, Missing, VoiceError
from stolenvoices.plays import is_play
from stolenvoices.sheets import Sheet
from tests import model
from tests.draws import draw_machine, draw_play
from tests.test_plays import beat
from tests.things import NO_INTEGERS, NO_TUPLES, tell

MACHINE = (2, ("under", "lowest"), "highest")
OTHER = (1, ("eldest",), "none")
PLAY = (("down", 5), ("down", 3), ("down", 9), ("down", 4), ("up", 9))
HEARD = ((5,), (3, 5), (5, 9), (5, 9), (4, 5))
NO_NUMBERS = [-1, -2, -5, -6, 10 ** 999, -10 ** 999, slice(0, 1), (0, 1), *NO_INTEGERS]


class SheetCase(unittest.TestCase):

    def has(self, sheet, machine, play):
        """All that the sheet tells is of the MACHINE and the PLAY."""
        self.assertEqual((sheet.machine, sheet.play), (machine, tuple(play)))
        self.assertEqual(len(sheet), len(play))
        self.assertEqual([sheet[number] for number in range(len(play))], list(play))
        heard = tuple(map(model.sound_in, model.states_of(machine, play)))
        self.assertEqual(sheet.heard(), heard)
        self.assertIsInstance(sheet.heard(), tuple)
        rows = [len(row) for _, row in model.states_of((88, ("refuse",), "none"), play)]
        self.assertEqual(sheet.need(), max(rows, default=0))

    def refused(self, error, attribute, value, call):
        with self.assertRaises(error) as caught:
            call()
        self.assertIs(caught.exception.__class__, error)
        found = getattr(caught.exception, attribute)
        if error is BadPlay:
            self.assertEqual(found, value)
        else:
            self.assertIs(found, value, tell(value))


def setting(sheet, event):
    """Sets the EVENT with a number."""
    def change(number):
        sheet[number] = event
    return change


class Beginnings(SheetCase):

    def test_what_it_tells(self):
        sheet = Sheet(MACHINE, PLAY)
        self.has(sheet, MACHINE, PLAY)
        self.assertEqual((sheet.heard(), sheet.need()), (HEARD, 4))
        self.has(Sheet(MACHINE), MACHINE, ())
        self.has(Sheet(play=PLAY, machine=OTHER), OTHER, PLAY)

    def test_drawn_ones(self):
        chance = Random(1)
        for voices, many in product(range(1, 9), (0, 1, 30, 300)):
            machine, play = draw_machine(chance, voices), draw_play(chance, many, range(voices + 4))
            self.has(Sheet(machine, play), machine, play)

    def test_refused_machines_and_then_plays(self):
        bad = [((0, ("eldest",), "none"), ("voices",)), ((1, ("eldest",), 0), ("return",))]
        for (machine, place), play in product(bad + [(thing, ()) for thing in NO_TUPLES], (PLAY, [], None)):
            with self.assertRaises(BadMachine) as caught:
                Sheet(machine, play)
            self.assertEqual(caught.exception.place, place)
        bad = [((("up", 5),), (0,)), ((*PLAY, None), (5,)), ((("press",),) * 301, ())]
        for play, place in bad + [(thing, ()) for thing in NO_TUPLES]:
            self.refused(BadPlay, "place", place, lambda: Sheet(MACHINE, play))

    def test_two_sheets_have_nothing_in_common(self):
        one, other = Sheet(MACHINE, PLAY), Sheet(MACHINE, PLAY)
        one.use(OTHER)
        one.put(0, ("press",))
        self.has(other, MACHINE, PLAY)
        self.assertIs(other.undo(), False)
        self.has(one, OTHER, (("press",), *PLAY))

    def test_what_is_told_cannot_be_set(self):
        sheet = Sheet(MACHINE, PLAY)
        for name in ("machine", "play"):
            self.assertRaises(AttributeError, setattr, sheet, name, None)

    def test_it_has_no_items_one_after_the_other(self):
        self.assertRaises(TypeError, iter, Sheet(MACHINE, PLAY))


class Changes(SheetCase):

    def changed(self, play, change, wanted):
        """A change of a Sheet of the PLAY leads to the PLAY that is wanted, or to BadPlay with its place."""
        sheet = Sheet(MACHINE, play)
        if is_play(wanted):
            told = change(sheet)
            self.has(sheet, MACHINE, wanted)
            self.assertIs(sheet.undo(), True)
        else:
            told = None
            with self.assertRaises(BadPlay) as caught:
                change(sheet)
            self.assertEqual(caught.exception.place, self.place(wanted))
        self.has(sheet, MACHINE, play)
        self.assertIs(sheet.undo(), False)
        return told

    def place(self, events):
        """The place of the first EVENT that cannot follow, by the model."""
        if len(events) > 300:
            return ()
        return min((number,) for number in range(len(events))
                   if not model.is_board_play(events[:number + 1], 88, True))

    def test_all_places_of_drawn_plays(self):
        chance = Random(2)
        for many in (0, 1, 2, 9, 12):
            for _ in range(8):
                play = draw_play(chance, many, range(4))
                event = chance.choice([("down", 2), ("up", 2), ("press",), ("lift",), ("down", 87)])
                for n in range(many + 1):
                    told = self.changed(play, lambda sheet: sheet.put(n, event), (*play[:n], event, *play[n:]))
                    self.assertIsNone(told)
                for n in range(many):
                    told = self.changed(play, lambda sheet: sheet.take(n), (*play[:n], *play[n + 1:]))
                    self.assertIn(told, (None, play[n]))
                    self.changed(play, lambda sheet: setting(sheet, event)(n),
                                 (*play[:n], event, *play[n + 1:]))

    def test_put_at_both_ends(self):
        sheet = Sheet(MACHINE)
        sheet.put(0, ("down", 5))
        sheet.put(1, ("up", 5))
        sheet.put(event=("press",), n=0)
        sheet.put(3, ("lift",))
        self.has(sheet, MACHINE, (("press",), ("down", 5), ("up", 5), ("lift",)))

    def test_take_at_both_ends(self):
        sheet = Sheet(MACHINE, (("press",), ("down", 5), ("up", 5), ("lift",)))
        self.assertEqual(sheet.take(3), ("lift",))
        self.assertEqual(sheet.take(n=0), ("press",))
        self.assertEqual(sheet.take(1), ("up", 5))
        self.assertEqual(sheet.take(0), ("down", 5))
        self.has(sheet, MACHINE, ())

    def test_set_at_both_ends(self):
        sheet = Sheet(MACHINE, PLAY)
        sheet[0] = ("down", 7)
        sheet[4] = ("up", 7)
        sheet[2] = ("press",)
        self.has(sheet, MACHINE, (("down", 7), ("down", 3), ("press",), ("down", 4), ("up", 7)))

    def test_use(self):
        sheet = Sheet(MACHINE, PLAY)
        self.assertIsNone(sheet.use(OTHER))
        self.has(sheet, OTHER, PLAY)
        sheet.use(machine=MACHINE)
        self.has(sheet, MACHINE, PLAY)
        bad = [((0, ("eldest",), "none"), ("voices",)), ((1, ("kept", "kept", "eldest"), "none"),
               ("criteria", 1)), ((1, ("eldest",), "refuse"), ("return",))]
        for machine, place in bad + [(thing, ()) for thing in NO_TUPLES]:
            with self.subTest(tell(machine)), self.assertRaises(BadMachine) as caught:
                sheet.use(machine)
            self.assertEqual(caught.exception.place, place)
            self.has(sheet, MACHINE, PLAY)
        self.assertEqual([sheet.undo(), sheet.undo(), sheet.undo()], [True, True, False])


class Refused(SheetCase):

    def test_no_such_number(self):
        for play in ((), PLAY[:1], PLAY):
            sheet, many = Sheet(MACHINE, play), len(play)
            for n in [*NO_NUMBERS, many, many + 1, 300]:
                for call in (lambda: sheet[n], lambda: sheet.take(n), lambda: setting(sheet, None)(n),
                             lambda: setting(sheet, ("press",))(n)):
                    self.refused(Missing, "number", n, call)
            for n in [*NO_NUMBERS, many + 1, 300]:
                for event in (("press",), None):
                    self.refused(Missing, "number", n, lambda: sheet.put(n, event))
            self.has(sheet, MACHINE, play)
            self.assertIs(sheet.undo(), False)

    def test_true_is_no_number(self):
        sheet = Sheet(MACHINE, PLAY)
        for n in (True, False):
            for call in (lambda: sheet[n], lambda: sheet.take(n), lambda: sheet.put(n, ("press",)),
                         lambda: setting(sheet, ("press",))(n)):
                self.refused(Missing, "number", n, call)

    def test_missing_is_a_lookup_error_and_no_voice_error(self):
        with self.assertRaises(LookupError) as caught:
            Sheet(MACHINE, PLAY).take(5)
        self.assertNotIsInstance(caught.exception, VoiceError)
        self.assertEqual(caught.exception.number, 5)

    def test_what_comes_of_it_is_no_play(self):
        sheet = Sheet(MACHINE, PLAY)
        cases = [(lambda: sheet.put(0, ("up", 5)), (0,)), (lambda: sheet.put(0, ("down", 5)), (1,)),
                 (lambda: sheet.put(0, ("down", 9)), (3,)), (lambda: sheet.put(5, ("up", 9)), (5,)),
                 (lambda: sheet.take(2), (3,)), (lambda: setting(sheet, ("down", 4))(0), (3,)),
                 (lambda: setting(sheet, ("up", 8))(4), (4,)), (lambda: setting(sheet, ("lift",))(4), (4,))]
        for call, place in cases:
            self.refused(BadPlay, "place", place, call)
            self.has(sheet, MACHINE, PLAY)
        self.assertIs(sheet.undo(), False)

    def test_things_that_are_no_events(self):
        sheet = Sheet(MACHINE, PLAY)
        wrong = [(), ("down",), ("down", 88), ("down", True), ["press"], ("press", 0), ("hold", 3), PLAY]
        for event, n in product(wrong + NO_TUPLES, range(6)):
            with self.subTest(event=tell(event), n=n):
                self.refused(BadPlay, "place", (n,), lambda: sheet.put(n, event))
                if n < 5:
                    self.refused(BadPlay, "place", (n,), lambda: setting(sheet, event)(n))
        self.has(sheet, MACHINE, PLAY)
        self.assertIs(sheet.undo(), False)

    def test_the_number_comes_first(self):
        sheet = Sheet(MACHINE, beat(5, 300))
        self.refused(Missing, "number", 301, lambda: sheet.put(301, None))
        self.refused(Missing, "number", 300, lambda: setting(sheet, None)(300))
        self.refused(BadPlay, "place", (), lambda: sheet.put(0, None))

    def test_a_play_of_300_events(self):
        play = beat(5, 300)
        sheet = Sheet(MACHINE, play)
        self.has(sheet, MACHINE, play)
        for n in (0, 1, 150, 300):
            self.refused(BadPlay, "place", (), lambda: sheet.put(n, ("press",)))
        self.has(sheet, MACHINE, play)
        sheet[299] = ("press",)
        self.assertEqual(sheet.take(299), ("press",))
        sheet.put(299, ("up", 5))
        self.has(sheet, MACHINE, play)
        self.refused(Missing, "number", 300, lambda: sheet.take(300))
        self.assertEqual([sheet.undo() for _ in range(4)], [True, True, True, False])
        self.has(sheet, MACHINE, play)


class Undo(SheetCase):

    def test_each_kind_of_change_one_by_one(self):
        sheet = Sheet(MACHINE, PLAY)
        steps = [lambda: sheet.use(OTHER), lambda: sheet.put(5, ("up", 4)), lambda: sheet.take(4),
                 lambda: setting(sheet, ("press",))(4), lambda: sheet.use(MACHINE),
                 lambda: sheet.put(0, ("down", 87))]
        before = []
        for change in steps:
            before.append((sheet.machine, sheet.play))
            change()
            self.assertNotEqual(before[-1], (sheet.machine, sheet.play))
        while before:
            self.assertIs(sheet.undo(), True)
            self.has(sheet, *before.pop())
        for _ in range(2):
            self.assertIs(sheet.undo(), False)
            self.has(sheet, MACHINE, PLAY)

    def test_changes_that_left_all_as_it_was(self):
        sheet = Sheet(MACHINE, PLAY)
        sheet.use(MACHINE)
        sheet[2] = ("down", 9)
        sheet.use((2, ("under", "lowest"), "highest"))
        self.has(sheet, MACHINE, PLAY)
        self.assertEqual([sheet.undo() for _ in range(4)], [True, True, True, False])
        self.has(sheet, MACHINE, PLAY)

    def test_a_refused_change_is_not_taken_back(self):
        sheet = Sheet(MACHINE, PLAY)
        sheet.put(0, ("press",))
        self.assertRaises(BadPlay, sheet.put, 0, ("lift",))
        self.assertRaises(BadMachine, sheet.use, None)
        self.assertRaises(Missing, sheet.take, 6)
        self.assertIs(sheet.undo(), True)
        self.has(sheet, MACHINE, PLAY)
        self.assertIs(sheet.undo(), False)

    def test_drawn_changes(self):
        chance = Random(3)
        for _ in range(40):
            machine, play = draw_machine(chance), draw_play(chance, 8, range(3))
            sheet, states = Sheet(machine, play), [(machine, play)]
            for _ in range(30):
                event = chance.choice([("down", 1), ("up", 1), ("down", 9), ("up", 9), ("press",), ("lift",)])
                n, kind = chance.randint(-1, len(sheet) + 1), chance.randrange(5)
                try:
                    if kind == 0:
                        sheet.put(n, event)
                    elif kind == 1:
                        sheet.take(n)
                    elif kind == 2:
                        sheet[n] = event
                    elif kind == 3:
                        sheet.use(draw_machine(chance))
                    else:
                        self.assertIs(sheet.undo(), len(states) > 1)
                        states = states[:-1] or states
                        self.has(sheet, *states[-1])
                        continue
                    states.append((sheet.machine, sheet.play))
                except (BadPlay, Missing):
                    pass
                self.has(sheet, *states[-1])
            for machine, play in states[-2::-1]:
                self.assertIs(sheet.undo(), True)
                self.has(sheet, machine, play)
            self.assertIs(sheet.undo(), False)


if __name__ == "__main__":
    unittest.main()
