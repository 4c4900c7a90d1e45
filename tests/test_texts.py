"""MACHINEs, PLAYs and SOUNDs as texts: stolenvoices/texts.py."""

import unittest
from itertools import product
from random import Random

from stolenvoices.errors import BadMachine, BadPlay, BadText
from stolenvoices.plays import need_play, trace
from stolenvoices.texts import machine_text, play_text, read_machine, read_play, sound_text
from tests import model
from tests.draws import draw_machine, draw_play
from tests.test_plays import beat
from tests.things import NO_TUPLES, OTHER_KINDS, tell

MACHINE = (3, ("kept", "eldest"), "latest")
MACHINE_WORDS = ["3", "kept", "eldest", ":", "latest"]
PLAY = (("down", 5), ("press",), ("up", 5), ("lift",))
NO_STRINGS = OTHER_KINDS + [0, 1, -1, 10 ** 999, (), ("3",), [], ["3", "eldest", ":", "none"], b"d5"]
# Words that tell no integer of 1 or 2 digits without a zero ahead.
NO_WHOLES = ["", "00", "01", "07", "000", "007", "100", "123", "-1", "+1", "-", "+", "1 ", "1a", "a1", "a", "1.",
             "1.0", "1_0", "0x1", "1e1", "3:", "\n1", "1\n", "1,2", "'1'", "one", "d5"]


class TextCase(unittest.TestCase):

    def refused(self, read, text, error, place):
        with self.subTest(text=tell(text)):
            with self.assertRaises(error) as caught:
                read(text)
            self.assertIs(caught.exception.__class__, error)
            self.assertEqual(caught.exception.place, place, text if isinstance(text, str) else tell(text))
            self.assertIsInstance(caught.exception.place, tuple)


class Written(TextCase):

    def test_the_example(self):
        self.assertEqual(machine_text(MACHINE), "3 kept eldest : latest")
        self.assertEqual(play_text(PLAY), "d5 p u5 l")
        self.assertEqual(machine_text(machine=MACHINE), "3 kept eldest : latest")
        self.assertEqual(play_text(play=PLAY), "d5 p u5 l")

    def test_machines_of_all_sizes(self):
        chance = Random(1)
        for voices, filters in product(range(1, 9), range(6)):
            machine = draw_machine(chance, voices, filters)
            words = [str(voices), *machine[1], ":", machine[2]]
            self.assertEqual(machine_text(machine), " ".join(words))
        self.assertEqual(machine_text((1, ("refuse",), "none")), "1 refuse : none")

    def test_plays(self):
        self.assertEqual(play_text(()), "")
        self.assertEqual(play_text((("down", 0), ("down", 87), ("down", 9), ("down", 10), ("up", 87))),
                         "d0 d87 d9 d10 u87")
        play = beat(87, 300)
        self.assertEqual(play_text(play), " ".join(["d87", "u87"] * 150))
        chance = Random(2)
        for many in (1, 5, 300):
            play = draw_play(chance, many)
            wanted = [event[0][0] + str(event[1] if len(event) == 2 else "") for event in play]
            self.assertEqual(play_text(play).split(" "), wanted)

    def test_sounds(self):
        self.assertEqual(sound_text(()), "-")
        self.assertEqual(sound_text((0,)), "0")
        self.assertEqual(sound_text(keys=(3, 5, 87)), "3,5,87")
        self.assertEqual(sound_text(tuple(range(88))), ",".join(map(str, range(88))))
        for sound in trace((2, ("under", "lowest"), "highest"), draw_play(Random(3), 50)):
            self.assertEqual(sound_text(sound), ",".join(map(str, sound)) if sound else "-")

    def test_refused(self):
        bad = [((0, ("eldest",), "none"), ("voices",)), ((1, ("eldest", "eldest"), "none"), ("criteria", 0)),
               ((1, ("eldest",), "refuse"), ("return",)), ((1, [], "none"), ("criteria",))]
        for thing, place in bad + [(thing, ()) for thing in NO_TUPLES]:
            self.refused(machine_text, thing, BadMachine, place)
        bad = [((("up", 5),), (0,)), ((*PLAY, None), (4,)), (beat(5, 301), ()), ((("down", 88),), (0,))]
        for thing, place in bad + [(thing, ()) for thing in NO_TUPLES]:
            self.refused(play_text, thing, BadPlay, place)


class ReadBack(TextCase):

    def test_machines(self):
        chance = Random(4)
        for voices, filters in product(range(1, 9), range(6)):
            machine = draw_machine(chance, voices, filters)
            self.assertEqual(read_machine(machine_text(machine)), machine)
        for word, returning in product(model.ENDS, model.RETURNS):
            self.assertEqual(read_machine(f"8 {word} : {returning}"), (8, (word,), returning))
        for word in model.FILTERS:
            self.assertEqual(read_machine(f"1 {word} eldest : none"), (1, (word, "eldest"), "none"))

    def test_plays(self):
        chance = Random(5)
        for many in (0, 1, 2, 30, 300):
            for keys in (range(88), range(3)):
                play = draw_play(chance, many, keys)
                self.assertEqual(read_play(play_text(play)), play)
                self.assertEqual(need_play(read_play(play_text(play))), play)
        for key in range(88):
            self.assertEqual(read_play(f"d{key} u{key}"), (("down", key), ("up", key)))
        self.assertEqual(read_play(""), ())

    def test_the_worked_example(self):
        self.assertEqual(read_play("d5 p u5 l"), PLAY)
        self.assertEqual(read_machine("3 kept eldest : latest"), MACHINE)
        self.assertEqual(read_machine(text="3 kept eldest : latest"), MACHINE)
        self.assertEqual(read_play(text="d5 p u5 l"), PLAY)


class BadMachineTexts(TextCase):

    def first_fault(self, words):
        """The number of the first word that cannot stand there, or that is lacking, or None."""
        stage = "voices"
        for number, word in enumerate(words):
            if stage == "voices" and word in [str(whole) for whole in range(100)]:
                stage = "first"
            elif stage in ("first", "more") and word in (*model.FILTERS, *model.ENDS):
                stage = "more"
            elif stage == "more" and word == ":":
                stage = "return"
            elif stage == "return" and word in model.RETURNS:
                stage = "end"
            else:
                return number
        return None if stage == "end" else len(words)

    def looked_at(self, words):
        """The text of the words is read, or refused where the tests' own look says so."""
        text = " ".join(words)
        fault = self.first_fault(words if text else [])
        if fault is not None:
            self.refused(read_machine, text, BadText, (fault,))
            return
        try:
            machine = read_machine(text)
        except BadMachine:
            pass
        else:
            self.assertEqual(machine_text(machine), text)

    def test_no_string(self):
        for thing in NO_STRINGS:
            self.refused(read_machine, thing, BadText, ())

    def test_a_word_is_lacking_behind_the_last(self):
        for many in range(5):
            self.refused(read_machine, " ".join(MACHINE_WORDS[:many]), BadText, (many,))

    def test_a_word_that_cannot_stand_there(self):
        cases = [("kept eldest : latest", 0), ("3 : latest", 1), ("3 kept eldest none", 3),
                 ("3 kept eldest : latest latest", 5), ("3 3 eldest : none", 1), ("3 kept eldest : : latest", 4),
                 ("3 kept eldest : refuse", 4), ("3 eldest : none :", 4), ("3 Kept eldest : latest", 1),
                 ("3 kept none : latest", 2), ("x", 0), (":", 0), ("3 x", 1), ("3 eldest x", 2),
                 ("3 eldest : x", 3), ("d5 p u5 l", 0), ("3 kept,eldest : latest", 1), ("3 kept eldest: latest", 2),
                 ("3 kept eldest :latest", 3), ("3kept eldest : latest", 0)]
        for text, number in cases:
            self.refused(read_machine, text, BadText, (number,))

    def test_spaces_and_newlines(self):
        cases = [(" 3 eldest : none", 0), ("3  eldest : none", 1), ("3 eldest  : none", 2), ("3 eldest :  none", 3),
                 ("3 eldest : none ", 4), ("3 eldest : none  ", 4), (" ", 0), ("  ", 0), ("3 ", 1),
                 ("3 eldest ", 2), ("3 eldest : ", 3), ("3 eldest : none\n", 3), ("\n3 eldest : none", 0),
                 ("3\neldest : none", 0), ("3 eldest\n: none", 1), ("\n", 0), ("3 eldest : none \n", 4)]
        for text, number in cases:
            self.refused(read_machine, text, BadText, (number,))

    def test_integers(self):
        for word in NO_WHOLES:
            if " " not in word:
                self.refused(read_machine, f"{word} eldest : none", BadText, (0,))
        for whole in (0, 9, 10, 12, 80, 99):
            self.refused(read_machine, f"{whole} eldest : none", BadMachine, ("voices",))

    def test_words_changed_at_each_place(self):
        others = ["", "3", "0", "03", "kept", "eldest", "none", "refuse", ":", "::", "d5", "Kept", "latest", "x"]
        for words in (MACHINE_WORDS, ["1", "refuse", ":", "none"], ["8", *model.FILTERS[:5], "lowest", ":", "none"]):
            for at in range(len(words) + 1):
                self.looked_at(words[:at] + words[at + 1:])
                self.looked_at(words[:at] + words[at:at + 1] + words[at:])
                self.looked_at(words[:at])
                for word in others:
                    self.looked_at(words[:at] + [word] + words[at:])
                    self.looked_at(words[:at] + [word] + words[at + 1:])
                for other in range(at):
                    swapped = list(words)
                    swapped[other:other + 1], swapped[at:at + 1] = words[at:at + 1], words[other:other + 1]
                    self.looked_at(swapped)

    def test_what_is_read_is_no_machine(self):
        cases = [("0 eldest : none", ("voices",)), ("9 eldest : none", ("voices",)),
                 ("1 eldest eldest : none", ("criteria", 0)), ("1 kept kept eldest : none", ("criteria", 1)),
                 ("1 kept : none", ("criteria", 0)), ("1 inner eldest kept : none", ("criteria", 1)),
                 ("1 kept inner notlow nothigh below above eldest : none", ("criteria",)),
                 ("0 " + "eldest " * 2000 + ": none", ("voices",)),
                 ("1 " + "eldest " * 2000 + ": none", ("criteria",))]
        for text, place in cases:
            self.refused(read_machine, text, BadMachine, place)
        self.refused(read_machine, "0 kept : none x", BadText, (4,))


class BadPlayTexts(TextCase):

    def test_no_string(self):
        for thing in NO_STRINGS:
            self.refused(read_play, thing, BadText, ())

    def test_words_at_each_place(self):
        wrong = ["", "d", "u", "D5", "U5", "P", "L", "pp", "ll", "lp", "p5", "l0", "5", "5d", "d-5", "d+5", "d5.",
                 "x", "x5", "down", "press", "d5,", "dd5", "du5", "(down", "\n", "d5\n", "\nd5", "p\n", "-"]
        wrong += [letter + word for letter in "du" for word in NO_WHOLES if " " not in word]
        for word, place in product(wrong, (0, 1, 3, 4)):
            words = ["d5", "p", "u5", "l"]
            self.refused(read_play, " ".join([*words[:place], word, *words[place:]]),
                         BadText, (place,))
            if place < 4:
                self.refused(read_play, " ".join([*words[:place], word, *words[place + 1:]]), BadText, (place,))

    def test_spaces(self):
        cases = [(" ", 0), ("  ", 0), (" d5", 0), ("d5 ", 1), ("d5  u5", 1), ("d5 u5  ", 2), ("d5 u5 p ", 3)]
        for text, number in cases:
            self.refused(read_play, text, BadText, (number,))

    def test_the_first_fault_is_told(self):
        self.refused(read_play, "d5 x y", BadText, (1,))
        self.refused(read_play, "d5 d5 x", BadText, (2,))
        self.refused(read_play, "d88 x", BadText, (1,))
        self.refused(read_play, "p p " * 400 + "x", BadText, (800,))

    def test_keys_above_87(self):
        for key in (88, 89, 99):
            self.refused(read_play, f"d{key}", BadPlay, (0,))
            self.refused(read_play, f"d5 u{key}", BadPlay, (1,))

    def test_what_is_read_is_no_play(self):
        cases = [("u5", (0,)), ("l", (0,)), ("d5 d5", (1,)), ("p p", (1,)), ("d5 u5 u5", (2,)), ("d5 p l l", (3,))]
        for text, place in cases:
            self.refused(read_play, text, BadPlay, place)

    def test_how_many_events(self):
        text = play_text(beat(7, 300))
        self.assertEqual(len(read_play(text)), 300)
        self.refused(read_play, text + " d7", BadPlay, ())
        self.refused(read_play, " ".join(["d7", "u7"] * 3000), BadPlay, ())
        self.refused(read_play, " ".join(["u7"] * 301), BadPlay, ())


if __name__ == "__main__":
    unittest.main()
