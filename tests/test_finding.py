"""What was heard of a PLAY, and what to ask: stolenvoices/finding.py, and points [7] and [12]."""

import time
import unittest
from itertools import product
from random import Random

from stolenvoices.errors import BadBoard, BadMachine, BadPlay, BadQuestion, BadTrace
from stolenvoices.finding import asking, fitting, need_trace
from stolenvoices.lists import groups
from stolenvoices.plays import is_play, trace
from tests import model
from tests.draws import draw_machine, draw_near, draw_play
from tests.test_boards import NO_BOARDS
from tests.things import NO_INTEGERS, NO_TUPLES, OTHER_KINDS, exchanged, tell

BOARDS = model.BOARDS
ELDEST = (1, ("eldest",), "none")
REFUSE = (1, ("refuse",), "none")
LOWEST = (2, ("lowest",), "none")
PLAY = (("down", 5), ("down", 3), ("down", 9), ("up", 9))
HEARD = ((5,), (3, 5), (5, 9), (5,))


def sounds_of(machine, play):
    return tuple(model.sound_in(state) for state in model.states_of(machine, play))


class Traces(unittest.TestCase):

    def refused(self, play, thing, place):
        for call in (lambda: need_trace(play, thing), lambda: fitting((LOWEST,), play, thing),
                     lambda: fitting((), play, thing)):
            with self.assertRaises(BadTrace) as caught:
                call()
            self.assertEqual(caught.exception.place, place, tell(thing))
            self.assertIsInstance(caught.exception.place, tuple)

    def test_traces_of_drawn_plays(self):
        chance = Random(1)
        for many in (0, 1, 2, 30, 300):
            for keys in (range(88), range(5)):
                play = draw_play(chance, many, keys)
                heard = trace(draw_machine(chance), play)
                self.assertIs(need_trace(play, heard), heard)

    def test_what_no_machine_sounds(self):
        for thing in (((), (), (), ()), ((87,), (0, 87), (), tuple(range(88)))):
            self.assertIs(need_trace(PLAY, thing), thing)
        self.assertEqual(need_trace((), ()), ())

    def test_one_sound_otherwise(self):
        chance = Random(2)
        wrong = [(9, 5), (1, 2, 4, 3), (5, 5), (0, 1, 1, 2), (88,), (-1,), (0, 88), (10 ** 999,), [], [5],
                 [1, 2], (True,), (False,), (0, True), (False, 1), ("5",), (None,), ((5,),), 5, "5"]
        wrong += NO_TUPLES + [(3, item) for item in NO_INTEGERS] + [(item, 3) for item in NO_INTEGERS]
        for item, _ in product(wrong, range(3)):
            play = draw_play(chance, chance.randint(1, 60))
            heard = trace(draw_machine(chance), play)
            place = chance.randrange(len(play))
            with self.subTest(tell(item)):
                self.refused(play, (*heard[:place], item, *heard[place + 1:]), (place,))

    def test_true_is_no_key_in_the_place_of_one(self):
        play = (("down", 1), ("down", 0))
        self.refused(play, ((True,), (0, 1)), (0,))
        self.refused(play, ((1,), (False, 1)), (1,))

    def test_the_first_item_is_told(self):
        self.refused(PLAY, ((5,), (5, 3), None, [5]), (1,))
        self.refused(PLAY, ((5,), (3, 5), (9, 9), (True,)), (2,))
        self.refused(PLAY, [[5], (3, 5)], ())

    def test_too_short_too_long_and_no_tuple(self):
        for thing in (HEARD[:3], (*HEARD, ()), (), ((), (), ()), (None,) * 3, (None,) * 5):
            self.refused(PLAY, thing, ())
        for thing in NO_TUPLES + [list(HEARD), {(5,): 0}]:
            with self.subTest(tell(thing)):
                self.refused(PLAY, thing, ())
                self.refused((), thing, ())
        self.refused((), ((),), ())

    def test_the_play_comes_first(self):
        for play, place in (([], ()), ((("down", 5), ("down", 5)), (1,)), (((("lift",),)), (0,)), (None, ())):
            for thing in (None, (), HEARD, ((), ())):
                with self.assertRaises(BadPlay) as caught:
                    need_trace(play, thing)
                self.assertEqual(caught.exception.place, place)

    def test_by_name(self):
        self.assertIs(need_trace(thing=HEARD, play=PLAY), HEARD)


class Fitting(unittest.TestCase):

    def test_by_hand(self):
        machines = (ELDEST, LOWEST, REFUSE, (2, ("under", "lowest"), "none"), LOWEST)
        self.assertEqual(fitting(machines, PLAY, HEARD), [1, 3, 4])
        self.assertEqual(fitting(machines, PLAY, ((5,), (3, 5), (5, 9), (3, 5))), [])
        self.assertEqual(fitting(machines, PLAY, ((5,), (5,), (5,), (5,))), [2])
        self.assertEqual(fitting(machines, PLAY[:1], HEARD[:1]), [0, 1, 2, 3, 4])

    def test_none_and_one(self):
        for play in ((), PLAY):
            self.assertEqual(fitting((), play, trace(LOWEST, play)), [])
            self.assertEqual(fitting((LOWEST,), play, trace(LOWEST, play)), [0])
        self.assertEqual(fitting((LOWEST,), (), ()), [0])
        self.assertEqual(fitting((LOWEST,), PLAY, ((),) * 4), [])

    def test_twenty_some_of_them_twice(self):
        chance = Random(3)
        seen = set()
        for number in range(120):
            some = [draw_machine(chance, chance.randint(1, 3), chance.randint(0, 2)) for _ in range(7)]
            some += [draw_near(chance, machine) for machine in some]
            machines = tuple(chance.choice(some) for _ in range(20))
            play = draw_play(chance, number % 12, range(chance.randint(2, 6)))
            for heard in (sounds_of(chance.choice(machines), play), tuple(() for _ in play)):
                found = fitting(machines, play, heard)
                wanted = [at for at, machine in enumerate(machines) if sounds_of(machine, play) == heard]
                self.assertEqual(found, wanted)
                self.assertIsInstance(found, list)
                seen.add(len(found))
        self.assertTrue({0, 20} < seen and len(seen) > 10)

    def test_a_play_of_300_events(self):
        chance = Random(4)
        machines = tuple(draw_machine(chance, voices % 8 + 1) for voices in range(20))
        play = draw_play(chance, 300, range(12))
        for at, machine in enumerate(machines):
            self.assertIn(at, fitting(machines, play, trace(machine, play)))

    def test_by_name_and_the_callers_own(self):
        found = fitting(heard=HEARD, play=PLAY, machines=(LOWEST,))
        self.assertEqual(found, [0])
        found.append(1)
        self.assertEqual(fitting((LOWEST,), PLAY, HEARD), [0])


class Asking(unittest.TestCase):

    def fewest(self, machines, keys, pedal):
        """The fewest EVENTs behind which not all MACHINEs have the same SOUND, or None."""
        level, seen, many = [tuple(model.START for _ in machines)], set(), 0
        while level:
            if any(len(set(map(model.sound_in, states))) > 1 for states in level):
                return many
            seen |= set(level)
            level = list({tuple(model.after(machine, state, event)[0]
                                for machine, state in zip(machines, states))
                          for states in level for event in model.events_in(states[0], keys, pedal)} - seen)
            many += 1
        return None

    def asked(self, machines, keys, pedal):
        """The answer agrees with a plain search; whether there is a PLAY."""
        play = asking(machines, keys, pedal=pedal)
        fewest = self.fewest(machines, keys, pedal)
        self.assertEqual(play is None, len(groups(machines, keys, pedal=pedal)) < 2)
        if fewest is None:
            self.assertIsNone(play, (machines, keys, pedal))
            return False
        self.assertIsInstance(play, tuple)
        self.assertTrue(is_play(play) and model.is_board_play(play, keys, pedal), play)
        self.assertEqual(len(play), fewest, (machines, keys, pedal))
        self.assertGreater(len({sounds_of(machine, play) for machine in machines}), 1)
        return True

    def test_none_one_and_equal_ones(self):
        for keys, pedal in BOARDS:
            for machines in ((), (ELDEST,), (LOWEST, LOWEST), (LOWEST,) * 20):
                self.assertIsNone(asking(machines, keys, pedal=pedal))

    def test_by_hand(self):
        self.assertIsNone(asking((ELDEST, REFUSE), 1))
        self.assertIn(asking((ELDEST, REFUSE), 2), [(("down", 0), ("down", 1)), (("down", 1), ("down", 0))])
        self.assertIsNone(asking((ELDEST, (1, ("lowest",), "none"), (1, ("latest",), "none")), 4))
        self.assertEqual(len(asking((LOWEST, LOWEST, (2, ("eldest",), "none")), 3)), 3)

    def test_the_one_that_is_told_apart_first_counts(self):
        """Of the other ones some are told apart from the first one later than others."""
        late, soon = (1, ("eldest",), "latest"), (1, ("refuse",), "none")
        for machines in ((ELDEST, late, soon), (ELDEST, soon, late), (late, ELDEST, soon),
                         (soon, late, ELDEST), (ELDEST, ELDEST, late, late, soon)):
            self.assertEqual(len(asking(machines, 2)), 2)
        self.assertEqual(len(asking((ELDEST, late), 2)), 3)
        self.assertEqual(len(asking((late, late, ELDEST), 2)), 3)

    def test_drawn_machines(self):
        chance = Random(5)
        seen = set()
        for (keys, pedal), many in product(BOARDS, (2, 2, 3, 3, 4, 6)):
            for _ in range(6):
                one = draw_machine(chance, chance.randint(1, 3), chance.randint(0, 3))
                rest = [draw_near(chance, one) for _ in range(many - 1)]
                seen.add((keys > 1, self.asked((one, *rest), keys, pedal)))
        self.assertEqual(seen, {(False, False), (True, False), (True, True)})

    def test_twenty_machines(self):
        chance = Random(6)
        for keys, pedal in BOARDS:
            voices = chance.randint(1, 2)
            one = draw_machine(chance, voices, 2)
            some = [draw_near(chance, one) for _ in range(6)]
            self.asked(tuple(chance.choice(some) for _ in range(20)), keys, pedal)
            self.asked((one,) * 19 + (some[0],), keys, pedal)

    def test_by_name(self):
        machines = (LOWEST, (2, ("kept", "lowest"), "none"))
        self.assertIsNone(asking(keys=3, machines=machines))
        found = asking(pedal=True, keys=3, machines=machines)
        self.assertEqual(found, asking(machines, 3, pedal=True))
        self.assertNotEqual(trace(machines[0], found), trace(machines[1], found))
        self.assertRaises(TypeError, asking, machines, 3, True)

    def test_the_largest_boards_are_answered_within_a_few_seconds(self):
        chance = Random(7)
        long = (2, ("kept", "notlow", "nothigh", "inner", "above", "lowest"), "none")
        drawn = tuple(draw_machine(chance, chance.randint(1, 3)) for _ in range(20))
        for (keys, pedal), machines in product(((4, False), (3, True)), ((long,) * 20, drawn, (LOWEST,) * 20)):
            before = time.perf_counter()
            asking(machines, keys, pedal=pedal)
            self.assertLess(time.perf_counter() - before, 5)


class Refused(unittest.TestCase):

    CALLS = (lambda machines: fitting(machines, [], None), lambda machines: asking(machines, 5),
             lambda machines: fitting(machines, PLAY, HEARD), lambda machines: asking(machines, 2))

    def test_no_tuple_of_at_most_twenty(self):
        for thing in NO_TUPLES + [[LOWEST], {LOWEST: 0}, (LOWEST,) * 21, (None,) * 21, (LOWEST,) * 300]:
            for call in self.CALLS:
                with self.subTest(tell(thing)):
                    self.assertRaises(BadQuestion, call, thing)

    def test_the_first_item_that_is_no_machine(self):
        bad = [((0, ("eldest",), "none"), ("voices",)), ((1, ("kept", "kept", "eldest"), "none"),
               ("criteria", 1)), ((1, ("eldest",), "refuse"), ("return",))]
        bad += [(thing, ()) for thing in NO_TUPLES]
        for (thing, place), call, before in product(bad, self.CALLS, (0, 1, 19)):
            rest = (1, ()) if before < 19 else ()
            with self.subTest(tell(thing)), self.assertRaises(BadMachine) as caught:
                call((LOWEST,) * before + (thing, *rest)[:20 - before])
            self.assertEqual(caught.exception.place, place)
        for machines in exchanged(((2, ("kept", "eldest"), "none"),), OTHER_KINDS):
            error = BadMachine if isinstance(machines, tuple) else BadQuestion
            for call in self.CALLS:
                self.assertRaises(error, call, machines)

    def test_the_play_and_then_the_trace(self):
        for play, place in (([], ()), ((("down", 5), ("down", 5)), (1,)), (None, ()), ((("down", 88),), (0,))):
            for machines, heard in product(((), (LOWEST,)), (None, (), HEARD)):
                with self.assertRaises(BadPlay) as caught:
                    fitting(machines, play, heard)
                self.assertEqual(caught.exception.place, place)

    def test_boards(self):
        for (keys, pedal), machines in product(NO_BOARDS, ((), (LOWEST,), (LOWEST, ELDEST))):
            with self.subTest(tell(keys)), self.assertRaises(BadBoard) as caught:
                asking(machines, keys, pedal=pedal)
            self.assertIs(caught.exception.many, keys)


if __name__ == "__main__":
    unittest.main()
