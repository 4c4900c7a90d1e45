"""The desk and its lines: stolenvoices/desk.py."""

import time
import unittest
from itertools import product
from random import Random

from stolenvoices.deciding import gap, grows, parting
from stolenvoices.desk import Desk
from stolenvoices.errors import BadMachine, BadText
from stolenvoices.machines import need_machine
from stolenvoices.players import Player
from stolenvoices.texts import machine_text, play_text, read_play
from tests import model
from tests.draws import draw_machine, draw_near, draw_play
from tests.things import NO_TUPLES, OTHER_KINDS, tell

TEXT = "2 under lowest : highest"
MACHINE = (2, ("under", "lowest"), "highest")
PLAY = (("down", 5), ("down", 3), ("down", 9), ("down", 4), ("up", 9))
NO_MACHINE_TEXTS = ["", " ", "2", "2 eldest", "2 eldest :", "2 : none", "eldest : none", "2 eldest none",
                    "2 eldest : none ", " 2 eldest : none", "2  eldest : none", "2 eldest : none none",
                    "2 eldest : refuse", "02 eldest : none", "0 eldest : none", "9 eldest : none", "99 eldest : none",
                    "2 kept : none", "2 eldest eldest : none", "2 kept kept eldest : none", "2 eldest : none\n",
                    "2 kept inner notlow nothigh below above eldest : none", "100 eldest : none", "x"]
BAD_LINES = [
    "", " ", "\n", "x", "Sound", "SOUND", "sounds", "soun", "d5", "p", "5", "-", "yes", "play,",
    " sound", "sound ", "sound\n", "sound sound", "sound 5", "sound  ",
    "events ", " events", "events 5", "events events", "undo ", "undo 1", " undo", "undo undo", "undo\n",
    "play ", "play  ", " play", "play  d7", "play d7 ", "play d7  u7", "play d88", "play d99", "play u88", "play d100",
    "play d07", "play d00", "play d", "play 7", "play D7", "play d7,u7", "play d7 x", "play x d7", "play d-1",
    "play d7 u7 d88", "play d7\nu7", "play press", "play pp", "play p5", "play sound", "play\n", "play d7\n",
    "mark", "mark ", "mark 88", "mark 99", "mark 100", "mark -1", "mark 05", "mark 00", "mark 5 ", "mark  5", "mark x",
    "mark d5", "mark 5 5", "mark 5 9", "mark True", "mark\n5", " mark 5", "mark 5\n", "mark 1.0",
    "grows", "grows ", "grows 0", "grows 5", "grows 03", "grows x", "grows 3 ", "grows  3", "grows 3 3", "grows -1",
    "grows 10", "grows 3 2 eldest : none", " grows 3", "grows 3\n", "grows three",
    "machine", "alike", "covers", "alike 3", "covers 3", "alike 3 ", "alike  3 2 eldest : none",
    *[f"machine {text}" for text in NO_MACHINE_TEXTS],
    *[f"{word} {text}" for word in ("alike 3", "covers 3") for text in NO_MACHINE_TEXTS],
    *[f"{word} {keys} 2 eldest : none" for word in ("alike", "covers")
      for keys in ("0", "5", "03", "x", "", "33", "-1", "3 3", "2 eldest : none", "4\n", "3,")],
    "alike 2 eldest : none", "covers 2 eldest : none",
]


def sound_of(machine, events):
    """The text of the SOUND behind EVENTs, by the model."""
    instrument = model.Instrument(machine)
    for event in events:
        instrument.play(event)
    return ",".join(map(str, instrument.sound())) or "-"


def text_of(events):
    return " ".join(event[0][0] + "".join(map(str, event[1:])) for event in events)


class DeskCase(unittest.TestCase):

    def is_behind(self, desk, machine, events):
        """The desk's player, and its lines about what was played, are behind the EVENTs by the MACHINE."""
        self.assertIsInstance(desk.player, Player)
        self.assertEqual((desk.player.machine, desk.player.events()), (machine, tuple(events)))
        self.assertEqual(desk.say("events"), text_of(events) or "none")
        self.assertEqual(desk.say("sound"), sound_of(machine, events))
        self.assertEqual(desk.say("play"), sound_of(machine, events))
        instrument = model.Instrument(machine)
        for event in events:
            instrument.play(event)
        self.assertEqual(desk.player.state, instrument.state())
        for key in range(88):
            self.assertEqual(desk.say(f"mark {key}"), instrument.mark.get(key, "up"))


class Beginnings(DeskCase):

    def test_a_new_desk(self):
        self.is_behind(Desk(TEXT), MACHINE, ())
        self.is_behind(Desk(text="8 refuse : none"), (8, ("refuse",), "none"), ())
        desk = Desk(TEXT)
        self.assertEqual([desk.say("sound"), desk.say("events"), desk.say("mark 5"), desk.say("undo")],
                         ["-", "none", "up", "nothing"])

    def test_refused_texts_and_then_machines(self):
        for text in OTHER_KINDS + [0, 1, 10 ** 999, (), (TEXT,), b"2 eldest : none"]:
            with self.subTest(tell(text)), self.assertRaises(BadText) as caught:
                Desk(text)
            self.assertEqual(caught.exception.place, ())
        for text, place in (("", (0,)), ("2 eldest :", (3,)), ("2 : none", (1,)), ("9 eldest : none x", (4,))):
            with self.assertRaises(BadText) as caught:
                Desk(text)
            self.assertEqual(caught.exception.place, place)
        for text, place in (("9 eldest : none", ("voices",)), ("2 eldest eldest : none", ("criteria", 0))):
            with self.assertRaises(BadMachine) as caught:
                Desk(text)
            self.assertEqual(caught.exception.place, place)
        for text in NO_MACHINE_TEXTS:
            self.assertRaises((BadText, BadMachine), Desk, text)

    def test_two_desks_have_nothing_in_common(self):
        one, other = Desk(TEXT), Desk(TEXT)
        one.say("play d5 d3 d9")
        self.is_behind(other, MACHINE, ())
        other.say("machine 1 eldest : none")
        self.is_behind(one, MACHINE, PLAY[:3])
        other.say("play d5")
        one.say("undo")
        self.is_behind(other, (1, ("eldest",), "none"), PLAY[:1])


class Lines(DeskCase):

    def test_by_hand(self):
        desk = Desk(TEXT)
        cases = [("play d5 d3", "3,5"), ("play d9", "5,9"), ("play", "5,9"), ("mark 3", "waits"), ("mark 5", "sounds"),
                 ("mark 87", "up"), ("mark 0", "up"), ("play p u5", "5,9"), ("mark 5", "kept"), ("sound", "5,9"),
                 ("events", "d5 d3 d9 p u5"), ("undo", "done"), ("mark 5", "sounds"), ("play u5 l", "3,9"),
                 ("play d3", "no"), ("play u3 u3", "no"), ("sound", "3,9"), ("machine 1 eldest : none", "9"),
                 ("events", "d5 d3 d9 p u5 l"), ("undo", "done"), ("undo", "done"), ("undo", "done"), ("undo", "done"),
                 ("events", "d5 d3"), ("undo", "done"), ("undo", "done"), ("undo", "nothing"), ("events", "none"),
                 ("sound", "-"), ("play", "-")]
        for line, answer in cases:
            self.assertEqual(desk.say(line), answer, line)
        self.assertEqual(desk.say(line="play d5"), "5")

    def test_play(self):
        chance = Random(1)
        for voices in range(1, 9):
            machine = draw_machine(chance, voices)
            desk, events = Desk(machine_text(machine)), draw_play(chance, 60, range(voices + 3))
            at = 0
            while at < 60:
                many = chance.randint(0, 9)
                line = " ".join(["play", *[text_of([event]) for event in events[at:at + many]]])
                at += many
                self.assertEqual(desk.say(line), sound_of(machine, events[:at]))
            self.is_behind(desk, machine, events)

    def test_one_that_cannot_follow_and_then_none_is_done(self):
        desk = Desk(TEXT)
        desk.say("play d5 p d3 u5")
        for words in ("d3", "u5", "p", "l l", "d5 d5", "d9 u9 u9", "u3 d3 d3 l", "d7 p", "u87"):
            self.assertEqual(desk.say(f"play {words}"), "no", words)
        self.is_behind(desk, MACHINE, read_play("d5 p d3 u5"))

    def test_what_is_no_event_comes_before_what_cannot_follow(self):
        desk = Desk(TEXT)
        for words in ("u5 x", "u5 d88", "l d07", "u5 "):
            self.assertEqual(desk.say(f"play {words}"), "bad line")

    def test_undo_takes_back_one_event(self):
        desk = Desk(TEXT)
        desk.say("play " + text_of(PLAY))
        for many in range(4, -1, -1):
            self.assertEqual(desk.say("undo"), "done")
            self.is_behind(desk, MACHINE, PLAY[:many])
        for _ in range(2):
            self.assertEqual(desk.say("undo"), "nothing")

    def test_machine(self):
        chance = Random(2)
        for _ in range(25):
            machine, events = draw_machine(chance), draw_play(chance, 30, range(6))
            desk = Desk(machine_text(draw_machine(chance)))
            desk.say("play " + text_of(events[:20]))
            self.assertEqual(desk.say("machine " + machine_text(machine)), sound_of(machine, events[:20]))
            self.is_behind(desk, machine, events[:20])
            self.assertEqual(desk.say("play " + text_of(events[20:])), sound_of(machine, events))
            self.is_behind(desk, machine, events)
            self.assertEqual(desk.say("undo"), "done")
            self.is_behind(desk, machine, events[:-1])

    def test_the_player_is_the_one_as_it_is_now(self):
        desk = Desk(TEXT)
        desk.say("play d5 d3")
        self.assertEqual(desk.player, Player(MACHINE, PLAY[:2]))
        desk.player(("down", 9))
        desk.player[4] = True
        self.is_behind(desk, MACHINE, PLAY[:4])
        desk.say("machine 3 eldest : none")
        self.assertEqual(desk.player, Player((3, ("eldest",), "none"), PLAY[:4]))
        self.assertIs(desk.player.undo(), True)
        self.is_behind(desk, (3, ("eldest",), "none"), PLAY[:3])

    def test_more_than_300_events(self):
        machine = (3, ("notlow", "eldest"), "latest")
        desk, events = Desk(machine_text(machine)), draw_play(Random(3), 2000, range(6))
        self.assertEqual(desk.say("play " + text_of(events[:400])), sound_of(machine, events[:400]))
        for event in events[400:500]:
            desk.say("play " + text_of([event]))
        self.assertEqual(desk.say("play " + text_of(events[500:])), sound_of(machine, events))
        self.is_behind(desk, machine, events)
        self.assertEqual(desk.say("machine " + TEXT), sound_of(MACHINE, events))
        self.is_behind(desk, MACHINE, events)
        for _ in range(1000):
            self.assertEqual(desk.say("undo"), "done")
        self.is_behind(desk, MACHINE, events[:1000])
        self.assertIn(desk.say("alike 2 2 refuse : none"), ("yes", "no"))


class Questions(DeskCase):

    def answered(self, answer, machine, other, keys, wanted, found):
        """The answer is "yes", or "no" and a PLAY of the BOARD behind which, and not before, what is wanted holds."""
        if found is None:
            self.assertEqual(answer, "yes")
            return
        self.assertEqual(answer[:3], "no ")
        play = read_play(answer[3:])
        self.assertEqual((play_text(play), len(play)), (answer[3:], len(found)))
        self.assertTrue(model.is_board_play(play, keys, False))
        states = zip(model.states_of(machine, play), model.states_of(other, play))
        self.assertEqual([wanted(*pair) for pair in states], [False] * (len(play) - 1) + [True])

    def test_alike_and_covers(self):
        chance = Random(4)
        seen = set()
        for keys, _ in product((1, 2, 3, 4), range(25)):
            machine = draw_machine(chance, chance.randint(1, 3), chance.randint(0, 3))
            other = draw_near(chance, machine)
            desk = Desk(machine_text(machine))
            desk.say("play d5 p u5")
            for word, look, wanted in (("alike", parting, model.sounds_differ), ("covers", gap, model.key_lacks)):
                found = look(machine, other, keys)
                answer = desk.say(f"{word} {keys} {machine_text(other)}")
                self.answered(answer, machine, other, keys, wanted, found)
                seen.add((keys, word, found is None))
            self.is_behind(desk, machine, read_play("d5 p u5"))
        self.assertTrue({(keys, word, answer) for keys in (2, 3, 4) for word in ("alike", "covers")
                         for answer in (True, False)} <= seen)

    def test_by_hand(self):
        desk = Desk("1 eldest : none")
        self.assertEqual(desk.say("alike 4 1 lowest : none"), "yes")
        self.assertIn(desk.say("alike 2 1 refuse : none"), ("no d0 d1", "no d1 d0"))
        self.assertIn(desk.say("covers 2 1 refuse : none"), ("no d0 d1", "no d1 d0"))
        self.assertEqual(desk.say("alike 1 1 refuse : none"), "yes")
        self.assertEqual(Desk("2 refuse : none").say("covers 4 1 refuse : none"), "yes")
        self.assertNotEqual(Desk("1 refuse : none").say("covers 4 2 refuse : none"), "yes")
        # Only the pedal would tell these apart.
        self.assertEqual(Desk("2 latest : none").say("alike 3 2 kept latest : none"), "yes")

    def test_the_machine_as_it_is_now(self):
        desk = Desk("1 eldest : none")
        desk.say("machine 1 refuse : none")
        self.assertEqual(desk.say("alike 4 1 refuse : none"), "yes")
        self.assertEqual(desk.say("alike 4 1 eldest : none")[:2], "no")
        desk.say("machine 8 refuse : none")
        self.assertEqual(desk.say("grows 1"), "full")

    def test_grows(self):
        chance = Random(5)
        for keys, _ in product((1, 2, 3, 4), range(12)):
            machine = draw_machine(chance, chance.randint(1, 7))
            answer = Desk(machine_text(machine)).say(f"grows {keys}")
            self.assertEqual(answer, "yes" if grows(machine, keys) else "no")
        self.assertEqual(Desk("2 notlow lowest : none").say("grows 4"), "no")
        self.assertEqual(Desk("2 notlow lowest : none").say("grows 3"), "yes")

    def test_with_8_voices(self):
        desk = Desk("8 eldest : latest")
        for keys in (1, 2, 3, 4):
            self.assertEqual(desk.say(f"grows {keys}"), "full")
            self.assertEqual(desk.say(f"alike {keys} 8 refuse : none"), "yes")
        for line in ("grows 0", "grows 5", "grows", "grows 3 3"):
            self.assertEqual(desk.say(line), "bad line")

    def test_the_largest_board_is_answered_within_a_few_seconds(self):
        desk = Desk("2 kept notlow nothigh inner above lowest : none")
        for line in ("alike 4 2 notlow nothigh inner above lowest : none", "covers 4 1 eldest : none", "grows 4"):
            before = time.perf_counter()
            self.assertNotEqual(desk.say(line), "bad line")
            self.assertLess(time.perf_counter() - before, 5)


class BadLines(DeskCase):

    def test_all_else(self):
        for text, play in ((TEXT, PLAY), (TEXT, ()), ("8 eldest : none", (("press",), ("down", 5), ("up", 5)))):
            desk = Desk(text)
            desk.say("play " + text_of(play) if play else "play")
            player, machine = desk.player, need_machine(desk.player.machine)
            for line in BAD_LINES:
                with self.subTest(line=line):
                    self.assertEqual(desk.say(line), "bad line")
                    self.assertIs(desk.player, player)
                    self.assertEqual(desk.player.events(), play)
            self.is_behind(desk, machine, play)

    def test_what_is_no_string(self):
        desk = Desk(TEXT)
        desk.say("play d5")
        for line in OTHER_KINDS + NO_TUPLES + [(), ("sound",), ["sound"], b"sound"]:
            if not isinstance(line, str):
                with self.subTest(tell(line)):
                    self.assertEqual(desk.say(line), "bad line")
        self.is_behind(desk, MACHINE, PLAY[:1])

    def test_words_more_and_words_less(self):
        desk = Desk(TEXT)
        lines = ["sound", "events", "undo", "mark 5", "grows 3", "machine 2 eldest : none", "alike 3 2 eldest : none",
                 "covers 3 2 eldest : none"]
        for line in lines:
            words = line.split(" ")
            for more in ("x", "5", "none", "", ":"):
                self.assertEqual(desk.say(" ".join([*words, more])), "bad line")
            for at in range(len(words)):
                self.assertEqual(desk.say(" ".join([*words[:at], "", *words[at:]])), "bad line")
                if len(words) > 1:
                    self.assertEqual(desk.say(" ".join(words[:at] + words[at + 1:])), "bad line")
        self.is_behind(desk, MACHINE, ())


if __name__ == "__main__":
    unittest.main()
