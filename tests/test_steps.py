"""STEPs, VICTIMs and DEEDs: points [5], [6] and [8]."""

import unittest
from itertools import product
from random import Random

from stolenvoices.errors import BadEvent, BadKey, BadMachine, BadState
from stolenvoices.states import START, is_state
from stolenvoices.steps import deeds, step, victim
from tests import model
from tests.draws import draw_machine, draw_state
from tests.things import NO_INTEGERS, NO_TUPLES, OTHER_KINDS, exchanged, tell

ELDEST = (2, ("eldest",), "none")
REFUSE = (2, ("refuse",), "none")
NO_MACHINES = [((0, ("eldest",), "none"), ("voices",)), ((1, [], "none"), ("criteria",)),
               ((1, ("kept", "kept", "eldest"), "none"), ("criteria", 1)),
               ((1, ("eldest",), "refuse"), ("return",)), ((), ()), (None, ())]


def row(text):
    """The ROW that a text tells, for example "5s 3k 4w"."""
    marks = {"s": "sounds", "k": "kept", "w": "waits"}
    return tuple((int(word[:-1]), marks[word[-1]]) for word in text.split())


def done(text):
    """The DEEDS that a text tells, for example "cut 5, begin 3"."""
    pairs = [word.split() for word in text.split(",") if word]
    return tuple((word, int(key)) for word, key in pairs)


class StepCase(unittest.TestCase):

    def goes(self, machine, state, event, wanted, wanted_deeds):
        """The STATE leads by the EVENT to the STATE that is wanted, with these DEEDS."""
        self.assertTrue(is_state(machine, state), state)
        after, told = step(machine, state, event), deeds(machine, state, event)
        self.assertEqual((after, told), (wanted, wanted_deeds), (machine, state, event))
        self.assertIs(after[0], wanted[0])
        self.assertIsInstance(after[1], tuple)
        self.assertIsInstance(told, tuple)
        self.assertTrue(is_state(machine, after))

    def rows(self, machine, before, event, after, told, pedal=False, pedal_after=None):
        pedal_after = pedal if pedal_after is None else pedal_after
        self.goes(machine, (pedal, row(before)), event, (pedal_after, row(after)), done(told))


class Down(StepCase):

    def test_a_voice_is_free(self):
        for machine, pedal in product((ELDEST, REFUSE, (2, ("eldest",), "lowest")), (False, True)):
            self.rows(machine, "", ("down", 5), "5s", "begin 5", pedal)
            self.rows(machine, "9s", ("down", 5), "9s 5s", "begin 5", pedal)
        self.rows(ELDEST, "9k", ("down", 5), "9k 5s", "begin 5", True)
        self.rows(ELDEST, "9s 3w", ("down", 5), "9s 3w 5s", "begin 5")
        self.rows(ELDEST, "1w 2w 3w", ("down", 0), "1w 2w 3w 0s", "begin 0")

    def test_a_kept_key_goes_down_again(self):
        for machine in (ELDEST, REFUSE, (2, ("kept", "eldest"), "latest")):
            self.rows(machine, "5k", ("down", 5), "5s", "again 5", True)
            self.rows(machine, "5k 9s", ("down", 5), "9s 5s", "again 5", True)
            self.rows(machine, "9s 5k", ("down", 5), "9s 5s", "again 5", True)
            self.rows(machine, "5k 1w 9k 2w", ("down", 5), "1w 9k 2w 5s", "again 5", True)

    def test_a_victim_that_sounds_waits_in_its_place(self):
        for pedal in (False, True):
            self.rows(ELDEST, "5s 9s", ("down", 7), "5w 9s 7s", "cut 5, begin 7", pedal)
            self.rows(ELDEST, "4w 5s 3w 9s", ("down", 7), "4w 5w 3w 9s 7s", "cut 5, begin 7", pedal)
            self.rows((2, ("latest",), "eldest"), "5s 9s", ("down", 7), "5s 9w 7s",
                      "cut 9, begin 7", pedal)

    def test_a_kept_victim_leaves(self):
        self.rows(ELDEST, "5k 9s", ("down", 7), "9s 7s", "cut 5, begin 7", True)
        self.rows((2, ("latest",), "none"), "5s 9k 1w", ("down", 7), "5s 1w 7s", "cut 9, begin 7", True)
        self.rows((1, ("kept", "lowest"), "highest"), "3w 9k", ("down", 0), "3w 0s",
                  "cut 9, begin 0", True)

    def test_without_a_victim_it_waits(self):
        for pedal in (False, True):
            self.rows(REFUSE, "5s 9s", ("down", 7), "5s 9s 7w", "refuse 7", pedal)
            self.rows((2, ("under", "lowest"), "highest"), "5s 9s", ("down", 4), "5s 9s 4w",
                      "refuse 4", pedal)
            self.rows((2, ("over", "highest"), "none"), "1w 5s 9s", ("down", 80), "1w 5s 9s 80w",
                      "refuse 80", pedal)
        self.rows(REFUSE, "5k 9k", ("down", 7), "5k 9k 7w", "refuse 7", True)


class Up(StepCase):

    def test_a_key_that_waits_leaves(self):
        for machine, pedal in product((REFUSE, (2, ("eldest",), "latest")), (False, True)):
            self.rows(machine, "5s 9s 7w", ("up", 7), "5s 9s", "leave 7", pedal)
            self.rows(machine, "7w 5s 3w 9s 4w", ("up", 3), "7w 5s 9s 4w", "leave 3", pedal)
        self.rows(REFUSE, "7w 3w", ("up", 7), "3w", "leave 7", True)

    def test_a_key_that_sounds_leaves_without_the_pedal(self):
        self.rows(ELDEST, "5s", ("up", 5), "", "end 5")
        self.rows(ELDEST, "5s 9s", ("up", 5), "9s", "end 5")
        self.rows(ELDEST, "3w 5s 9s", ("up", 9), "3w 5s", "end 9")

    def test_a_key_that_sounds_is_kept_with_the_pedal(self):
        for machine in (ELDEST, REFUSE, (2, ("eldest",), "eldest")):
            self.rows(machine, "5s", ("up", 5), "5k", "keep 5", True)
            self.rows(machine, "5s 1w 9s", ("up", 5), "5k 1w 9s", "keep 5", True)
            self.rows(machine, "5k 9s 1w", ("up", 9), "5k 9k 1w", "keep 9", True)

    def test_each_return(self):
        before = "6w 8s 3w 5s 9w 7w"
        for returning, key, after in (
                ("none", None, "6w 3w 5s 9w 7w"), ("eldest", 6, "6s 3w 5s 9w 7w"),
                ("latest", 7, "6w 3w 5s 9w 7s"), ("lowest", 3, "6w 3s 5s 9w 7w"),
                ("highest", 9, "6w 3w 5s 9s 7w")):
            back = "" if key is None else f", back {key}"
            for criteria in (("eldest",), ("refuse",), ("kept", "over", "lowest")):
                self.rows((2, criteria, returning), before, ("up", 8), after, "end 8" + back)

    def test_only_as_many_return_as_voices_are_free(self):
        self.rows((3, ("eldest",), "lowest"), "4w 8s 5s 6s 3w", ("up", 5), "4w 8s 6s 3s",
                  "end 5, back 3")


class Pedal(StepCase):

    def test_press(self):
        for machine in (ELDEST, REFUSE, (2, ("eldest",), "lowest")):
            for before in ("", "5s", "5s 3w 9s"):
                self.rows(machine, before, ("press",), before, "", False, True)
        self.rows(REFUSE, "5w 9w", ("press",), "5w 9w", "", False, True)

    def test_lift_ends_the_kept_keys_in_the_order_of_row(self):
        for machine in ((4, ("eldest",), "none"), (4, ("refuse",), "highest")):
            self.rows(machine, "", ("lift",), "", "", True, False)
            self.rows(machine, "5s 9s", ("lift",), "5s 9s", "", True, False)
            self.rows(machine, "9k 5s 2k 7k", ("lift",), "5s", "end 9, end 2, end 7", True, False)

    def test_several_come_back_behind_one_lift(self):
        before, ended = "6w 8k 3w 5k 9w 1s 7w", "end 8, end 5"
        for returning, back, after in (
                ("none", "", "6w 3w 9w 1s 7w"),
                ("eldest", ", back 6, back 3", "6s 3s 9w 1s 7w"),
                ("latest", ", back 7, back 9", "6w 3w 9s 1s 7s"),
                ("lowest", ", back 3, back 6", "6s 3s 9w 1s 7w"),
                ("highest", ", back 9, back 7", "6w 3w 9s 1s 7s")):
            self.rows((3, ("eldest",), returning), before, ("lift",), after, ended + back, True, False)

    def test_fewer_wait_than_voices_become_free(self):
        for returning, back in (("eldest", "back 6, back 3"), ("latest", "back 3, back 6"),
                                ("lowest", "back 3, back 6"), ("highest", "back 6, back 3")):
            self.rows((3, ("eldest",), returning), "6w 8k 5k 3w 9k", ("lift",), "6s 3s",
                      "end 8, end 5, end 9, " + back, True, False)


class Victims(StepCase):
    """Of the LOUD pairs 5 (kept), 2, 9 (kept) and 7; 0, 4 and 80 wait."""

    STATE = (True, row("0w 5k 2s 4w 9k 7s 80w"))
    ENDS = ("eldest", "latest", "lowest", "highest")

    def choose(self, criteria, key, wanted, state=None, voices=4):
        state = self.STATE if state is None else state
        for returning in model.RETURNS:
            machine = (voices, criteria, returning)
            self.assertEqual(victim(machine, state, key), wanted, (machine, state, key))
            told = deeds(machine, state, ("down", key))
            loud = len([key for key, mark in state[1] if mark != "waits"])
            if wanted is not None:
                self.assertEqual(told, (("cut", wanted), ("begin", key)))
            else:
                self.assertEqual(told, (("refuse" if loud == voices else "begin", key),))

    def each_end(self, filters, key, wanted):
        for end, found in zip(self.ENDS, wanted):
            self.choose((*filters, end), key, found)
        self.choose((*filters, "refuse"), key, None)

    def test_each_end_by_itself(self):
        for key in (1, 6, 10):
            self.each_end((), key, (5, 7, 2, 9))

    def test_each_filter_with_each_end(self):
        self.each_end(("kept",), 6, (5, 9, 5, 9))
        self.each_end(("inner",), 6, (5, 7, 5, 7))
        self.each_end(("notlow",), 6, (5, 7, 5, 9))
        self.each_end(("nothigh",), 6, (5, 7, 2, 7))
        for word in ("below", "under"):
            self.each_end((word,), 6, (5, 2, 2, 5))
            self.each_end((word,), 8, (5, 7, 2, 7))
        for word in ("above", "over"):
            self.each_end((word,), 6, (9, 7, 7, 9))
            self.each_end((word,), 3, (5, 7, 5, 9))

    def test_filters_together(self):
        self.each_end(("kept", "below"), 6, (5, 5, 5, 5))
        self.each_end(("inner", "kept"), 6, (5, 5, 5, 5))
        self.each_end(("above", "notlow"), 6, (9, 7, 7, 9))
        self.each_end(("above", "nothigh"), 6, (7, 7, 7, 7))
        self.each_end(("notlow", "nothigh"), 6, (5, 7, 5, 7))
        self.each_end(("below", "above"), 6, (5, 2, 2, 5))
        self.each_end(("above", "below"), 6, (9, 7, 7, 9))
        self.each_end(("kept", "inner", "notlow", "nothigh", "over"), 3, (5, 5, 5, 5))

    def test_the_order_of_the_filters_counts(self):
        self.each_end(("nothigh", "above"), 8, (5, 7, 2, 7))
        self.each_end(("above", "nothigh"), 8, (9, 9, 9, 9))
        self.each_end(("kept", "under"), 3, (None,) * 4)
        self.each_end(("under", "kept"), 3, (2, 2, 2, 2))

    def test_the_lowest_and_highest_of_all_loud_pairs(self):
        self.each_end(("above", "inner"), 3, (5, 7, 5, 7))
        self.each_end(("kept", "notlow"), 6, (5, 9, 5, 9))
        self.each_end(("below", "nothigh"), 6, (5, 2, 2, 5))

    def test_a_filter_that_would_leave_none_changes_nothing(self):
        state = (True, row("5s 2s 4w 9s 7s"))
        for end, wanted in zip(self.ENDS, (5, 7, 2, 9)):
            self.choose(("kept", end), 6, wanted, state)
            self.choose(("below", end), 1, wanted, state)
            self.choose(("above", end), 10, wanted, state)
            for word in ("inner", "notlow", "nothigh"):
                self.choose((word, end), 6, 5, (False, row("5s")), voices=1)
        for end, wanted in zip(self.ENDS, (5, 2, 2, 5)):
            self.choose(("inner", end), 6, wanted, (False, row("5s 2s")), voices=2)

    def test_under_and_over_that_would_leave_none(self):
        for end in model.ENDS:
            self.choose(("under", end), 1, None)
            self.choose(("over", end), 10, None)
            self.choose(("kept", "over", "notlow", end), 10, None)
            for key in (1, 6, 10):
                self.choose(("under", "over", end), key, None)
                self.choose(("over", "under", end), key, None)
        self.each_end(("below", "over"), 1, (5, 7, 2, 9))
        self.each_end(("below", "over"), 6, (None,) * 4)
        self.each_end(("below", "over"), 10, (None,) * 4)

    def test_a_free_voice(self):
        for end, voices in product(model.ENDS, (5, 6, 8)):
            machine = (voices, ("kept", end), "none")
            for key in (1, 6, 10, 87):
                self.assertIsNone(victim(machine, self.STATE, key))
            self.assertIsNone(victim(machine, START, 0))

    def test_no_such_key(self):
        machine = (4, ("eldest",), "none")
        for key in [0, 5, 2, 4, 9, 7, 80, -1, 88, 10 ** 999, *NO_INTEGERS]:
            for voices in (4, 8):
                with self.subTest(tell(key)), self.assertRaises(BadKey) as caught:
                    victim((voices, ("eldest",), "none"), self.STATE, key)
                self.assertIs(caught.exception.key, key)
        self.assertEqual(victim(key=3, state=self.STATE, machine=machine), 5)


class Refused(StepCase):

    def refused(self, error, attribute, wanted, *arguments):
        """The error is raised, and tells what is wanted."""
        for look in (step, deeds):
            with self.assertRaises(error) as caught:
                look(*arguments)
            told = getattr(caught.exception, attribute)
            if error is BadEvent:
                self.assertIs(told, wanted)
            else:
                self.assertEqual(told, wanted)

    def test_events_that_cannot_follow(self):
        state = (False, row("5s 9s 3w"))
        for event in (("down", 5), ("down", 9), ("down", 3), ("up", 4), ("up", 0), ("lift",)):
            self.refused(BadEvent, "event", event, ELDEST, state, event)
        state = (True, row("5k 9s 3w"))
        for event in (("down", 9), ("down", 3), ("up", 5), ("up", 4), ("press",)):
            self.refused(BadEvent, "event", event, ELDEST, state, event)
        for event in (("up", 0), ("up", 87), ("lift",)):
            self.refused(BadEvent, "event", event, ELDEST, START, event)

    def test_no_events(self):
        events = [(), ("down",), ("up",), ("press", 0), ("lift", 0), ("down", 5, 5), ("down", -1),
                  ("down", 88), ("down", 10 ** 999), ("Down", 5), ("down 5",), (5, "down"), ("",),
                  ("kept", 5), ("press", "lift"), ["down", 5], ["press"], "press", "down", ("down", "5"),
                  ((),), (("press",),)]
        events += [thing for event in (("down", 5), ("press",)) for thing in exchanged(event, OTHER_KINDS)]
        for event, state in product(events, (START, (True, row("5k 9s")), (False, row("5s")))):
            with self.subTest(tell(event)):
                self.refused(BadEvent, "event", event, ELDEST, state, event)

    def test_true_and_false_are_no_keys(self):
        state = (False, row("0s 1s"))
        for event in (("up", False), ("up", True), ("down", False), ("down", True)):
            self.refused(BadEvent, "event", event, ELDEST, state, event)
            self.refused(BadEvent, "event", event, ELDEST, START, event)

    def test_no_states(self):
        for event in (("down", 5), ("up", 7), ("wrong",), None):
            self.refused(BadState, "place", (), ELDEST, [], event)
            self.refused(BadState, "place", ("pedal",), ELDEST, (0, ()), event)
            self.refused(BadState, "place", ("row",), ELDEST, (False, []), event)
            self.refused(BadState, "place", ("row", 1), ELDEST, (False, row("5s 5w")), event)
            self.refused(BadState, "place", ("row", 0), ELDEST, (False, row("5k")), event)
            self.refused(BadState, "place", ("waits",), (2, ("eldest",), "latest"),
                         (False, row("5s 3w")), event)

    def test_states_of_other_kinds_at_any_depth(self):
        # True and False may stand for the pedal, which is tested in test_states.
        others = [thing for thing in OTHER_KINDS if not isinstance(thing, bool)]
        for state in exchanged((False, row("5s 3w")), others):
            for look in (step, deeds, victim):
                with self.subTest(tell(state)), self.assertRaises(BadState):
                    look(REFUSE, state, None)

    def test_machines_come_first(self):
        bad = NO_MACHINES + [(thing, ()) for thing in NO_TUPLES]
        for machine, place in bad:
            for state, event in product((START, None, (0, ())), (("down", 5), ("up", 5), None)):
                self.refused(BadMachine, "place", place, machine, state, event)
                with self.assertRaises(BadMachine) as caught:
                    victim(machine, state, event)
                self.assertEqual(caught.exception.place, place)
        for machine in exchanged((2, ("kept", "eldest"), "none"), OTHER_KINDS):
            with self.subTest(tell(machine)), self.assertRaises(BadMachine):
                step(machine, None, None)

    def test_victim_looks_at_the_state_before_the_key(self):
        for state, place in (([], ()), ((0, ()), ("pedal",)), ((False, row("5k")), ("row", 0))):
            for key in (5, 88, None, True):
                with self.assertRaises(BadState) as caught:
                    victim(ELDEST, state, key)
                self.assertEqual(caught.exception.place, place)

    def test_by_name(self):
        self.assertEqual(step(event=("down", 1), state=START, machine=ELDEST), (False, row("1s")))
        self.assertEqual(deeds(event=("down", 1), state=START, machine=ELDEST), (("begin", 1),))


class AgainstTheModel(StepCase):

    def compare(self, machine, state, keys):
        """All EVENTs of these KEYs and of the pedal do what the model does, or are refused."""
        down, kept = model.down_in(state), {key for key, mark in state[1] if mark == "kept"}
        events = [(word, key) for word, key in product(("down", "up"), keys)]
        for event in (*events, ("press",), ("lift",)):
            can = {"press": not state[0], "lift": state[0], "down": event[-1] not in down,
                   "up": event[-1] in down}[event[0]]
            if can:
                self.goes(machine, state, event, *model.after(machine, state, event))
            else:
                self.assertRaises(BadEvent, step, machine, state, event)
                self.assertRaises(BadEvent, deeds, machine, state, event)
        for key in keys:
            if key not in down | kept:
                wanted = model.Instrument(machine, state).victim(key)
                self.assertEqual(victim(machine, state, key), wanted, (machine, state, key))

    def test_drawn_states_of_machines_of_all_sizes(self):
        chance = Random(5)
        for voices, filters, _ in product(range(1, 9), range(6), range(12)):
            machine = draw_machine(chance, voices, filters)
            state = draw_state(chance, machine)
            self.compare(machine, state, sorted({*range(0, 88, 9), *[key for key, _ in state[1]]}))

    def test_all_states_of_few_keys(self):
        chance = Random(6)
        for number in range(25):
            machine = draw_machine(chance, number % 3 + 1, number % 4)
            for state in model.all_states(machine, 3):
                self.compare(machine, state, range(4))


if __name__ == "__main__":
    unittest.main()
