"""EVENTs, PLAYs, TRACEs and NEEDs: points [2], [7], [9] and [10]."""

import unittest
from itertools import product
from random import Random

from stolenvoices import plays
from stolenvoices.errors import BadMachine, BadPlay
from stolenvoices.plays import cuts, is_play, last_state, need, need_play, trace
from stolenvoices.states import START, sound
from stolenvoices.steps import deeds, step, victim
from tests import model
from tests.draws import draw_machine, draw_play
from tests.things import NO_TUPLES, OTHER_KINDS, exchanged, tell

MACHINE = (2, ("under", "lowest"), "highest")
EXAMPLE = (("down", 5), ("down", 3), ("down", 9), ("down", 4), ("up", 9))
PEDALLED = (("down", 5), ("press",), ("up", 5), ("down", 5), ("up", 5), ("lift",), ("down", 5))
WITH_MACHINE = (trace, last_state, cuts)


def beat(key, many):
    """The PLAY that takes a KEY down and lets it up in turn, so many EVENTs."""
    return tuple(("up" if number % 2 else "down", key) for number in range(many))


class PlayCase(unittest.TestCase):

    def taken(self, thing):
        self.assertIs(need_play(thing), thing)
        self.assertIs(is_play(thing), True)
        self.assertEqual(len(trace(MACHINE, thing)), len(thing))

    def refused(self, thing, place):
        self.assertIs(is_play(thing), False)
        calls = [lambda look=look: look(MACHINE, thing) for look in WITH_MACHINE]
        for call in (lambda: need_play(thing), lambda: need(thing), *calls):
            with self.assertRaises(BadPlay) as caught:
                call()
            self.assertEqual(caught.exception.place, place, tell(thing))
            self.assertIsInstance(caught.exception.place, tuple)


class GoodPlays(PlayCase):

    def test_most_events(self):
        self.assertEqual(plays.MOST_EVENTS, 300)

    def test_plays_of_0_1_and_300_events(self):
        self.taken(())
        for event in (("down", 0), ("down", 87), ("press",)):
            self.taken((event,))
        for many in (2, 299, 300):
            self.taken(beat(87, many))
            self.taken((("press",), ("lift",)) * (many // 2))

    def test_a_key_and_the_pedal_go_down_and_up_again(self):
        self.taken(EXAMPLE)
        self.taken(PEDALLED)
        self.taken((("down", 0), ("down", 1), ("up", 0), ("down", 0), ("up", 1), ("up", 0)))
        self.taken((("press",), ("lift",), ("press",), ("down", 3), ("lift",), ("up", 3)))

    def test_all_keys(self):
        keys = range(88)
        self.taken(tuple(("down", key) for key in keys) + tuple(("up", key) for key in keys))

    def test_drawn_plays(self):
        chance = Random(1)
        for many in (1, 2, 5, 30, 300):
            for _ in range(10):
                self.taken(draw_play(chance, many))
                self.taken(draw_play(chance, many, range(3)))

    def test_by_name(self):
        self.assertIs(need_play(thing=EXAMPLE), EXAMPLE)
        self.assertIs(is_play(thing=EXAMPLE), True)
        self.assertEqual(need(play=EXAMPLE), 4)
        for look in WITH_MACHINE:
            self.assertEqual(look(play=EXAMPLE, machine=MACHINE), look(MACHINE, EXAMPLE))


class BadPlays(PlayCase):

    def test_no_tuple(self):
        for thing in NO_TUPLES + [[("down", 5)], [], {("down", 5): 1}]:
            with self.subTest(tell(thing)):
                self.refused(thing, ())

    def test_more_than_300_events(self):
        self.refused(beat(5, 301), ())
        self.refused((None,) * 301, ())
        self.refused(beat(5, 2000), ())
        self.refused((None,) * 300, (0,))

    def test_what_cannot_follow(self):
        self.refused((("up", 5),), (0,))
        self.refused((("lift",),), (0,))
        self.refused((("down", 5), ("down", 5)), (1,))
        self.refused((("down", 5), ("down", 3), ("down", 5)), (2,))
        self.refused((("down", 5), ("up", 5), ("up", 5)), (2,))
        self.refused((("down", 5), ("up", 3)), (1,))
        self.refused((("press",), ("press",)), (1,))
        self.refused((("press",), ("down", 5), ("press",)), (2,))
        self.refused((("press",), ("lift",), ("lift",)), (2,))

    def test_a_kept_key_is_up(self):
        before = (("press",), ("down", 5), ("up", 5))
        self.refused((*before, ("up", 5)), (3,))
        self.taken((*before, ("down", 5)))
        self.refused((*before, ("down", 5), ("down", 5)), (4,))
        self.refused((*before, ("lift",), ("up", 5)), (4,))

    def test_items_that_are_no_events_at_each_place(self):
        wrong = [(), ("down",), ("up",), ("press", 0), ("lift", 0), ("down", 6, 6), ("down", -1),
                 ("down", 88), ("down", 10 ** 999), ("up", True), ("Down", 6), (6, "down"),
                 ["down", 6], ["press"], "press", "down 6", ("down", "6"), 0, EXAMPLE, ("hold", 6)]
        wrong += list(exchanged(("down", 6), OTHER_KINDS))
        play = beat(5, 300)
        for item in wrong:
            with self.subTest(tell(item)):
                for place in (0, 1, 4, 149):
                    self.refused((*play[:place], item, *play[place + 1:]), (place,))
                    self.refused((*play[:place], item), (place,))
                self.refused((*play[:299], item), (299,))

    def test_true_and_false_are_no_keys(self):
        for key, other in ((0, False), (1, True)):
            self.refused((("down", other),), (0,))
            self.refused((("down", other), ("up", key)), (0,))
            self.refused((("down", key), ("up", other)), (1,))

    def test_the_first_fault_is_told(self):
        self.refused((("down", 5), ("down", 5), None, ("lift",)), (1,))
        self.refused((("down", 5), None, ("down", 5)), (1,))
        self.refused((("lift",), None), (0,))
        self.refused((("down", 5), ("up", 5), ("down", 88), ("up", 88)), (2,))

    def test_the_machine_is_looked_at_first(self):
        for machine, place in (((0, ("eldest",), "none"), ("voices",)), ((1, ("kept",), "none"),
                               ("criteria", 0)), (None, ()), ((1, ("eldest",), "up"), ("return",))):
            for look, play in product(WITH_MACHINE, (EXAMPLE, (), None, (("lift",),), [])):
                with self.assertRaises(BadMachine) as caught:
                    look(machine, play)
                self.assertEqual(caught.exception.place, place)
        for machine in exchanged((2, ("kept", "eldest"), "none"), OTHER_KINDS):
            for look in WITH_MACHINE:
                with self.assertRaises(BadMachine):
                    look(machine, [])


class Traces(PlayCase):

    def test_the_example(self):
        self.assertEqual(trace(MACHINE, EXAMPLE), ((5,), (3, 5), (5, 9), (5, 9), (4, 5)))
        self.assertEqual(last_state(MACHINE, EXAMPLE),
                         (False, ((5, "sounds"), (3, "waits"), (4, "sounds"))))
        self.assertEqual(cuts(MACHINE, EXAMPLE), ((2, 3),))

    def test_the_worked_example(self):
        machine = (2, ("eldest",), "latest")
        play = (("down", 0), ("down", 1), ("down", 2), ("up", 1))
        self.assertEqual((trace(machine, play), need(play)), (((0,), (0, 1), (1, 2), (0, 2)), 3))

    def test_the_pedal(self):
        machine = (1, ("eldest",), "none")
        play = (("press",), ("down", 5), ("up", 5), ("down", 3), ("lift",), ("up", 3), ("down", 5))
        self.assertEqual(trace(machine, play), ((), (5,), (5,), (3,), (3,), (), (5,)))
        self.assertEqual(cuts(machine, play), ((3, 5),))
        self.assertEqual(last_state(machine, play), (False, ((5, "sounds"),)))
        self.assertEqual(last_state(machine, play[:3]), (True, ((5, "kept"),)))

    def test_the_empty_play(self):
        for machine in (MACHINE, (8, ("refuse",), "none")):
            self.assertEqual(trace(machine, ()), ())
            self.assertEqual(last_state(machine, ()), START)
            self.assertEqual(cuts(machine, ()), ())

    def test_drawn_plays_step_by_step(self):
        chance = Random(2)
        for voices, filters in product(range(1, 9), range(6)):
            machine = draw_machine(chance, voices, filters)
            play = draw_play(chance, 80, range(voices + 3))
            state, sounds, found = START, [], []
            for number, event in enumerate(play):
                told = deeds(machine, state, event)
                if event[0] == "down" and told[0][0] != "again":
                    key = victim(machine, state, event[1])
                    found += [] if key is None else [(number, key)]
                state = step(machine, state, event)
                sounds.append(sound(machine, state))
                self.assertEqual(last_state(machine, play[:number + 1]), state)
            self.assertEqual(trace(machine, play), tuple(sounds))
            self.assertEqual(cuts(machine, play), tuple(found))
            self.assertIsInstance(cuts(machine, play), tuple)

    def test_drawn_plays_against_the_model(self):
        chance = Random(3)
        for voices, filters in product(range(1, 9), range(6)):
            machine = draw_machine(chance, voices, filters)
            play = draw_play(chance, 300, range(0, 88, chance.choice((1, 5, 8))))
            wanted = model.states_of(machine, play)
            self.assertEqual(trace(machine, play), tuple(map(model.sound_in, wanted)))
            self.assertEqual(last_state(machine, play), wanted[-1])


class Needs(PlayCase):

    def test_needs(self):
        self.assertEqual(need(()), 0)
        self.assertEqual(need((("press",), ("lift",))), 0)
        self.assertEqual(need(beat(5, 300)), 1)
        self.assertEqual(need(EXAMPLE), 4)
        self.assertEqual(need(PEDALLED), 1)
        self.assertEqual(need(tuple(("down", key) for key in range(88))), 88)

    def test_kept_keys_count_until_the_pedal_is_up(self):
        play = (("press",), ("down", 5), ("up", 5), ("down", 6), ("up", 6), ("down", 7))
        self.assertEqual(need(play), 3)
        self.assertEqual(need(play[1:3]), 1)
        self.assertEqual(need((*play[:4], ("lift",), ("down", 7))), 2)
        self.assertEqual(need((*play[:3], ("down", 5))), 1)
        self.assertEqual(need((("down", 5), ("press",), ("up", 5), ("lift",), ("down", 6))), 1)

    def count(self, play):
        """The NEED, by sets of the KEYs that are down and that are kept."""
        down, kept, pressed, most = set(), set(), False, 0
        for event in play:
            if len(event) == 1:
                pressed, kept = event == ("press",), set()
            elif event[0] == "down":
                down, kept = down | {event[1]}, kept - {event[1]}
            else:
                down, kept = down - {event[1]}, kept | ({event[1]} if pressed else set())
            most = max(most, len(down | kept))
        return most

    def test_drawn_plays(self):
        chance = Random(4)
        for number in range(200):
            play = draw_play(chance, number, range(chance.randint(1, 40)))
            self.assertEqual(need(play), self.count(play))

    def test_machines_with_need_voices_and_with_fewer(self):
        chance = Random(7)
        for number in range(400):
            play = draw_play(chance, 30, range(chance.randint(1, 8)), number % 2 == 0)
            most = need(play)
            machine = draw_machine(chance)
            told = [word for states in [[START, *model.states_of(machine, play)]]
                    for state, event in zip(states, play) for word, _ in deeds(machine, state, event)]
            waits = any(mark == "waits" for state in model.states_of(machine, play)
                        for _, mark in state[1])
            if machine[0] >= most:
                self.assertEqual((cuts(machine, play), "refuse" in told, waits), ((), False, False))
            else:
                self.assertTrue(cuts(machine, play) or "refuse" in told)


class Pure(PlayCase):

    def sounding(self, number, voices, order):
        """What sounds by a PURE rule: order has the KEYs that are down, as they went down."""
        return sorted([order[-voices:], order[:voices], sorted(order)[-voices:],
                       sorted(order)[:voices]][number])

    def test_the_sound_is_determined_by_the_keys_that_are_down(self):
        chance = Random(9)
        for (number, rule), voices in product(enumerate(model.PURE), range(1, 9)):
            for keys in (range(voices + 1), range(voices + 4), range(88)):
                play = draw_play(chance, 150, keys, False)
                order = []
                for event, heard in zip(play, trace((voices, *rule), play)):
                    if event[0] == "down":
                        order.append(event[1])
                    else:
                        order.remove(event[1])
                    self.assertEqual(list(heard), self.sounding(number, voices, order))


if __name__ == "__main__":
    unittest.main()
