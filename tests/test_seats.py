"""Voices by NUMBERs: points [18] and [19]."""

import time
import unittest
from itertools import product
from random import Random

from stolenvoices import seats
from stolenvoices.errors import BadBoard, BadKey, BadMachine, BadPlay, BadQuestion
from stolenvoices.plays import is_play, trace
from stolenvoices.seats import (
    need_way, numbers_had, numbers_used, seat_alike, seat_parting, seatings, voice_of)
from tests import model, seat_model
from tests.draws import draw_machine, draw_play
from tests.test_boards import NO_BOARDS
from tests.things import NO_INTEGERS, NO_TUPLES, NO_WORDS, tell

BOARDS = model.BOARDS
WAYS = ("least", "round", "longest", "own")
ELDEST = (2, ("eldest",), "none")
EXAMPLE = (("down", 0), ("up", 0), ("down", 1))
NO_WAYS = NO_WORDS + ["", "Least", "least ", "eldest", "none", "rounds", ("least", "own")]
NO_KEYS = [-1, 88, 10 ** 999, -10 ** 999, *NO_INTEGERS]
PLAYED = (seatings, numbers_used, lambda machine, way, play: voice_of(machine, way, play, 3))


class Ways(unittest.TestCase):

    def test_ways(self):
        self.assertEqual(seats.WAYS, WAYS)
        for way in WAYS:
            self.assertIs(need_way(way), way)
            self.assertIs(need_way(thing=way), way)

    def test_anything(self):
        for thing in NO_WAYS:
            with self.subTest(tell(thing)):
                self.assertRaises(BadQuestion, need_way, thing)


class Seatings(unittest.TestCase):

    def test_the_example(self):
        wanted = {"least": (1, None), "own": (1, None), "round": (None, 1), "longest": (None, 1)}
        for way in WAYS:
            found = seatings(ELDEST, way, EXAMPLE)
            self.assertEqual(found, ((0, None), (None, None), wanted[way]))

    def test_least(self):
        machine = (3, ("eldest",), "latest")
        play = tuple(("down", key) for key in (10, 11, 12, 13)) + (("up", 11), ("up", 12), ("up", 13), ("down", 9))
        # 10 is cut by 13, and comes back when 11 is let up.
        self.assertEqual(seatings(machine, "least", play), (
            (10, None, None), (10, 11, None), (10, 11, 12), (13, 11, 12), (13, 10, 12), (13, 10, None),
            (None, 10, None), (9, 10, None)))

    def test_round(self):
        machine = (3, ("refuse",), "none")
        play = (("down", 5), ("down", 6), ("up", 5), ("down", 7), ("down", 8), ("up", 8), ("down", 8), ("up", 6),
                ("up", 8), ("down", 9), ("up", 9), ("down", 9))
        self.assertEqual([row for event, row in zip(play, seatings(machine, "round", play))
                          if event[0] == "down"],
                         [(5, None, None), (5, 6, None), (None, 6, 7), (8, 6, 7), (8, 6, 7), (None, 9, 7),
                          (9, None, 7)])

    def test_round_the_voice_got_last_comes_last(self):
        machine = (2, ("refuse",), "none")
        play = (("down", 5), ("down", 6), ("up", 6), ("down", 7), ("up", 5), ("up", 7), ("down", 8))
        self.assertEqual(seatings(machine, "round", play)[3], (5, 7))
        self.assertEqual(seatings(machine, "round", play)[-1], (8, None))

    def test_longest(self):
        machine = (3, ("refuse",), "none")
        play = (("down", 5), ("down", 6), ("up", 6), ("up", 5), ("down", 7), ("down", 8), ("down", 9))
        self.assertEqual(seatings(machine, "longest", play)[-3:], ((None, None, 7), (None, 8, 7), (9, 8, 7)))

    def test_longest_by_the_order_of_deeds_of_one_event(self):
        # "lift" ends the kept KEYs in the order of ROW: first 8, which has the voice 2, then 5.
        play = (("press",), ("down", 5), ("down", 8), ("up", 8), ("up", 5), ("down", 5), ("up", 5), ("lift",),
                ("down", 1), ("down", 0))
        found = seatings(ELDEST, "longest", play)
        self.assertEqual(found[-3:], ((None, None), (None, 1), (0, 1)))
        self.assertEqual(seatings(ELDEST, "round", play)[-2:], ((1, None), (1, 0)))

    def test_own(self):
        machine = (3, ("refuse",), "none")
        play = (("down", 5), ("down", 6), ("up", 5), ("up", 6), ("down", 6), ("down", 7), ("up", 6), ("up", 7),
                ("down", 8), ("down", 5), ("down", 6), ("up", 6), ("up", 5), ("up", 8), ("down", 5))
        found = [row for event, row in zip(play, seatings(machine, "own", play)) if event[0] == "down"]
        # 5 had the voice 1, which 8 has when it comes again; so it gets the least one, and that is its own then.
        self.assertEqual(found, [(5, None, None), (5, 6, None), (None, 6, None), (7, 6, None), (8, None, None),
                                 (8, 5, None), (8, 5, 6), (None, 5, None)])

    def test_kept_keys_have_their_voices(self):
        play = (("down", 5), ("press",), ("up", 5), ("down", 6), ("down", 5), ("up", 6), ("lift",))
        for way in WAYS:
            self.assertEqual(seatings(ELDEST, way, play), (
                (5, None), (5, None), (5, None), (5, 6), (5, 6), (5, 6), (5, None)))

    def test_against_the_second_model(self):
        chance = Random(1)
        for way, voices, returning in product(WAYS, range(1, 9), model.RETURNS):
            for pedal, many in ((True, 120), (False, 60)):
                machine = (*draw_machine(chance, voices)[:2], returning)
                play = draw_play(chance, many, range(voices + chance.randint(0, 4)), pedal)
                found = seatings(machine, way, play)
                self.assertEqual(found, seat_model.seatings_of(machine, way, play), (machine, way, play))
                self.assertTrue(all(isinstance(row, tuple) for row in found) and isinstance(found, tuple))

    def test_many_keys_and_300_events(self):
        chance = Random(2)
        for way, voices in product(WAYS, (1, 3, 8)):
            machine = draw_machine(chance, voices)
            play = draw_play(chance, 300)
            self.assertEqual(seatings(machine, way, play), seat_model.seatings_of(machine, way, play))

    def test_the_empty_play(self):
        for way in WAYS:
            self.assertEqual(seatings(ELDEST, way, ()), ())
            self.assertEqual(numbers_used(ELDEST, way, ()), ())
            self.assertIsNone(voice_of(ELDEST, way, (), 5))


class Numbers(unittest.TestCase):

    def test_by_hand(self):
        self.assertEqual([voice_of(ELDEST, way, EXAMPLE, 1) for way in WAYS], [1, 2, 2, 1])
        self.assertEqual([voice_of(ELDEST, way, EXAMPLE, 0) for way in WAYS], [None] * 4)
        self.assertEqual([voice_of(ELDEST, way, EXAMPLE[:1], 0) for way in WAYS], [1] * 4)
        self.assertEqual([numbers_used(ELDEST, way, EXAMPLE) for way in WAYS], [(1,), (1, 2), (1, 2), (1,)])

    def test_against_the_second_model(self):
        chance = Random(3)
        for way, voices, many in product(WAYS, range(1, 9), (1, 5, 40)):
            machine = draw_machine(chance, voices)
            play = draw_play(chance, many, range(voices + 2))
            rows = seat_model.seatings_of(machine, way, play)
            used = {number for row in rows for number, key in enumerate(row, 1) if key is not None}
            self.assertEqual(numbers_used(machine, way, play), tuple(sorted(used)))
            for key in [*range(voices + 2), 87]:
                wanted = rows[-1].index(key) + 1 if key in rows[-1] else None
                self.assertEqual(voice_of(machine, way, play, key), wanted)

    def test_by_name(self):
        self.assertEqual(seatings(play=EXAMPLE, way="round", machine=ELDEST), seatings(ELDEST, "round", EXAMPLE))
        self.assertEqual(numbers_used(play=EXAMPLE, way="round", machine=ELDEST), (1, 2))
        self.assertEqual(voice_of(key=1, play=EXAMPLE, way="round", machine=ELDEST), 2)


class Facts(unittest.TestCase):

    def test_the_keys_of_a_seating_are_those_of_the_sound(self):
        chance = Random(4)
        for way, voices in product(WAYS, range(1, 9)):
            machine = draw_machine(chance, voices)
            play = draw_play(chance, 150, range(voices + 3))
            for row, sound in zip(seatings(machine, way, play), trace(machine, play)):
                self.assertEqual(len(row), voices)
                self.assertEqual(tuple(sorted(key for key in row if key is not None)), sound)

    def test_with_one_voice_all_ways_have_the_same_seatings(self):
        chance = Random(5)
        for _ in range(30):
            machine = draw_machine(chance, 1)
            play = draw_play(chance, 60, range(4))
            self.assertEqual(len({seatings(machine, way, play) for way in WAYS}), 1)
        for (keys, pedal), one, other in product(BOARDS, WAYS, WAYS):
            for _ in range(3):
                self.assertIs(seat_alike(draw_machine(chance, 1), one, other, keys, pedal=pedal), True)

    def test_least_uses_as_many_numbers_as_keys_sound(self):
        chance = Random(6)
        for voices, many in product(range(1, 9), (0, 1, 3, 50)):
            machine = draw_machine(chance, voices)
            play = draw_play(chance, many, range(voices + 3))
            most = max(map(len, trace(machine, play)), default=0)
            self.assertEqual(numbers_used(machine, "least", play), tuple(range(1, most + 1)))


class Partings(unittest.TestCase):

    def parted(self, machine, one, other, keys, pedal):
        """The answers agree with a plain search, both ways round; whether there is a PLAY."""
        fewest = seat_model.fewest_apart(machine, (one, other), keys, pedal)
        for ways in ((one, other), (other, one)):
            play = seat_parting(machine, *ways, keys, pedal=pedal)
            self.assertIs(seat_alike(machine, *ways, keys, pedal=pedal), fewest is None)
            if fewest is None:
                self.assertIsNone(play, (machine, ways, keys, pedal))
                continue
            self.assertIsInstance(play, tuple)
            self.assertTrue(is_play(play) and model.is_board_play(play, keys, pedal), play)
            self.assertEqual(len(play), fewest, (machine, ways, keys, pedal, play))
            self.assertNotEqual(seatings(machine, one, play), seatings(machine, other, play))
        return fewest

    def test_all_ways_on_all_boards(self):
        chance = Random(7)
        seen = set()
        for (keys, pedal), voices in product(BOARDS, range(1, 5)):
            machine = draw_machine(chance, voices)
            for at, one in enumerate(WAYS):
                for other in WAYS[at + 1:]:
                    seen.add(self.parted(machine, one, other, keys, pedal))
        self.assertTrue({None, 3, 5, 6, 7} <= seen)

    def test_drawn_machines_with_fewer_voices_than_keys(self):
        chance = Random(8)
        for (keys, pedal), _ in product(((3, False), (4, False), (3, True)), range(8)):
            machine = draw_machine(chance, chance.randint(2, keys - 1))
            for ways in (("round", "longest"), ("least", "own"), ("round", "own")):
                self.parted(machine, *ways, keys, pedal)

    def test_more_voices_than_keys(self):
        chance = Random(9)
        for keys, pedal in ((1, False), (1, True), (2, False), (2, True), (3, False)):
            for voices in range(keys, 7):
                machine = draw_machine(chance, voices)
                for ways in (("round", "longest"), ("own", "least")):
                    self.parted(machine, *ways, keys, pedal)

    def test_a_way_and_itself(self):
        for way, (keys, pedal), voices in product(WAYS, BOARDS, (1, 2, 8)):
            self.assertIs(seat_alike((voices, ("eldest",), "none"), way, way, keys, pedal=pedal), True)
            self.assertIsNone(seat_parting((voices, ("eldest",), "none"), way, way, keys, pedal=pedal))

    def test_by_name(self):
        found = seat_parting(pedal=True, keys=2, other="own", one="round", machine=ELDEST)
        self.assertEqual(found, seat_parting(ELDEST, "round", "own", 2, pedal=True))
        self.assertIs(seat_alike(pedal=False, keys=1, other="own", one="least", machine=ELDEST), True)
        for look in (seat_alike, seat_parting):
            self.assertRaises(TypeError, look, ELDEST, "round", "own", 2, True)
        self.assertRaises(TypeError, numbers_had, ELDEST, "round", 0, 2, True)


class NumbersHad(unittest.TestCase):

    def test_against_a_plain_search(self):
        chance = Random(10)
        cases = [(board, voices) for board in BOARDS for voices in range(1, 6)
                 if (board[0] < 3 or voices < 4) and (board[0] < 4 or voices < 3)]
        for ((keys, pedal), voices), way in product(cases, WAYS):
            machine = draw_machine(chance, voices)
            wanted = seat_model.numbers_of(machine, way, keys, pedal)
            for key in range(keys):
                found = numbers_had(machine, way, key, keys, pedal=pedal)
                self.assertEqual(found, wanted[key], (machine, way, key, keys, pedal))
                self.assertIsInstance(found, tuple)

    def test_more_voices_than_keys(self):
        for way, voices in product(("least", "own", "round"), (4, 8)):
            machine = (voices, ("kept", "lowest"), "highest")
            for keys, pedal in ((3, False), (2, True), (1, False)):
                wanted = seat_model.numbers_of(machine, way, keys, pedal)
                self.assertEqual([numbers_had(machine, way, key, keys, pedal=pedal) for key in range(keys)], wanted)

    def test_by_hand(self):
        machine = (8, ("refuse",), "none")
        self.assertEqual([numbers_had(machine, way, 0, 3) for way in WAYS],
                         [(1, 2, 3), tuple(range(1, 9)), tuple(range(1, 9)), (1, 2, 3)])
        self.assertEqual([numbers_had((2, ("refuse",), "none"), way, 3, 4) for way in WAYS], [(1, 2)] * 4)
        self.assertEqual(numbers_had(pedal=True, keys=2, key=1, way="own", machine=machine), (1, 2))


class Refused(unittest.TestCase):

    ON_BOARDS = (lambda one, other, keys, pedal: seat_alike(ELDEST, one, other, keys, pedal=pedal),
                 lambda one, other, keys, pedal: seat_parting(ELDEST, one, other, keys, pedal=pedal))

    def test_ways_of_a_play(self):
        for way, look in product(NO_WAYS, PLAYED):
            for play in (EXAMPLE, None, (("up", 3),)):
                with self.subTest(tell(way)):
                    self.assertRaises(BadQuestion, look, ELDEST, way, play)
        for way in NO_WAYS:
            self.assertRaises(BadQuestion, voice_of, ELDEST, way, None, None)

    def test_plays(self):
        bad = [(thing, ()) for thing in NO_TUPLES] + [((("up", 3),), (0,)), ((*EXAMPLE, None), (3,))]
        for (play, place), look, way in product(bad, PLAYED, WAYS):
            with self.subTest(tell(play)), self.assertRaises(BadPlay) as caught:
                look(ELDEST, way, play)
            self.assertEqual(caught.exception.place, place)
        with self.assertRaises(BadPlay):
            voice_of(ELDEST, "own", None, None)

    def test_keys_of_voice_of(self):
        for key, way, play in product(NO_KEYS, WAYS, (EXAMPLE, ())):
            with self.subTest(tell(key)), self.assertRaises(BadKey) as caught:
                voice_of(ELDEST, way, play, key)
            self.assertIs(caught.exception.key, key)

    def test_machines_come_first(self):
        bad = [((0, ("eldest",), "none"), ("voices",)), ((1, ("eldest",), 0), ("return",))]
        for machine, place in bad + [(thing, ()) for thing in NO_TUPLES]:
            for call in (lambda: seatings(machine, None, None), lambda: numbers_used(machine, "own", EXAMPLE),
                         lambda: voice_of(machine, None, EXAMPLE, 5), lambda: seat_alike(machine, 0, 0, 0),
                         lambda: seat_parting(machine, "own", "own", 3), lambda: numbers_had(machine, 0, 0, 0),
                         lambda: numbers_had(machine, "own", 1, 3)):
                with self.subTest(tell(machine)), self.assertRaises(BadMachine) as caught:
                    call()
                self.assertEqual(caught.exception.place, place)

    def test_each_way_in_its_turn_and_then_the_board(self):
        for way, call in product(NO_WAYS, self.ON_BOARDS):
            for one, other in ((way, "own"), ("own", way), (way, None)):
                for keys in (3, 5, None):
                    with self.subTest(tell(way)):
                        self.assertRaises(BadQuestion, call, one, other, keys, False)
        for way in NO_WAYS:
            self.assertRaises(BadQuestion, numbers_had, ELDEST, way, 0, 5)
        for (keys, pedal), call in product(NO_BOARDS, self.ON_BOARDS):
            for ways in (("own", "least"), ("own", "own")):
                with self.subTest(tell(keys)), self.assertRaises(BadBoard) as caught:
                    call(*ways, keys, pedal)
                self.assertIs(caught.exception.many, keys)

    def test_the_board_and_then_its_keys(self):
        for (keys, pedal), key in product(NO_BOARDS, (0, 88, None)):
            with self.subTest(tell(keys)), self.assertRaises(BadBoard) as caught:
                numbers_had(ELDEST, "own", key, keys, pedal=pedal)
            self.assertIs(caught.exception.many, keys)
        for keys, pedal in BOARDS:
            for key, way in product([*NO_KEYS, keys, 4, 87], WAYS):
                with self.subTest(tell(key)), self.assertRaises(BadKey) as caught:
                    numbers_had(ELDEST, way, key, keys, pedal=pedal)
                self.assertIs(caught.exception.key, key)


class Seconds(unittest.TestCase):

    def test_the_largest_boards_are_answered_within_a_few_seconds(self):
        for (keys, pedal), voices in product(((4, False), (3, True)), range(1, 9)):
            machine = (voices, ("kept", "notlow", "above", "lowest"), "latest")
            for at, one in enumerate(WAYS):
                for other in WAYS[at:]:
                    before = time.perf_counter()
                    play = seat_parting(machine, one, other, keys, pedal=pedal)
                    self.assertLess(time.perf_counter() - before, 5)
                    self.assertEqual(play is None, voices == 1 or one == other)
                before = time.perf_counter()
                numbers_had(machine, one, 0, keys, pedal=pedal)
                self.assertLess(time.perf_counter() - before, 5)

    def test_the_longest_partings(self):
        """All VOICES were had once, and two of them became free in another order than they were got."""
        for (keys, pedal), voices in product(BOARDS[1:4] + BOARDS[5:], (7, 8)):
            machine = (voices, ("eldest",), "none")
            play = seat_parting(machine, "round", "longest", keys, pedal=pedal)
            self.assertEqual(len(play), 2 * voices + 2 - keys)
            self.assertTrue(model.is_board_play(play, keys, pedal))
            rows = [seatings(machine, way, play) for way in ("round", "longest")]
            self.assertEqual(rows[0][:-1], rows[1][:-1])
            self.assertNotEqual(rows[0], rows[1])


if __name__ == "__main__":
    unittest.main()
