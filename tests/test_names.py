"""Point [1] over the whole program: arguments by position and by name, equal calls, and the worked example."""

import importlib
import unittest
from contextlib import nullcontext
from copy import deepcopy
from itertools import permutations, product

from stolenvoices.chains import chain_trace
from stolenvoices.deciding import alike, parting
from stolenvoices.desk import Desk
from stolenvoices.errors import Missing
from stolenvoices.papers import paper
from stolenvoices.players import Player
from stolenvoices.plays import need, trace
from stolenvoices.sheets import Sheet
from stolenvoices.texts import machine_text, read_play
from tests.test_language import INTERFACE

MACHINE = (2, ("notlow", "kept", "lowest"), "none")
OTHER = (2, ("kept", "lowest"), "none")
PLAY = (("down", 5), ("down", 3), ("down", 9), ("up", 9))
HEARD = trace(MACHINE, PLAY)
STATE = (True, ((2, "sounds"), (5, "kept"), (1, "waits")))
# What is passed for each name of an argument, unless a module or a function takes something else.
VALUES = {
    "machine": MACHINE, "one": MACHINE, "other": OTHER, "play": PLAY, "keys": 3, "pedal": True, "state": STATE,
    "event": ("up", 2), "key": 1, "machines": (MACHINE, OTHER, MACHINE), "heard": HEARD, "way": "round",
    "chain": (OTHER, MACHINE), "n": 1, "voices": 3, "place": (3,), "many": 7, "number": 8,
}
ELSE = {
    "errors": {"event": None, "key": "x"},
    "machines": {"thing": MACHINE},
    "states": {"thing": STATE},
    "steps": {},
    "steps.victim": {"key": 4},
    "plays": {"thing": PLAY},
    "papers": {"one": OTHER, "other": OTHER, "thing": paper(OTHER, OTHER, 3, pedal=True)},
    "finding": {"thing": HEARD},
    "players.under": {"deed": lambda one: [one], "manager": nullcontext("one")},
    "texts.sound_text": {"keys": (3, 5)},
    "texts.read_machine": {"text": "2 kept eldest : none"},
    "texts.read_play": {"text": "d5 p u5"},
    "desk": {"text": "2 kept eldest : none"},
    "seats": {"one": "round", "other": "longest", "thing": "own"},
    "seats.voice_of": {"key": 5},
    "chains": {"one": (OTHER, MACHINE), "other": (MACHINE, OTHER), "thing": (OTHER, MACHINE)},
}
METHODS = [
    (lambda: Player(MACHINE, PLAY), "__call__", {"event": ("press",)}),
    (lambda: Sheet(MACHINE, PLAY), "use", {"machine": OTHER}),
    (lambda: Sheet(MACHINE, PLAY), "put", {"n": 1, "event": ("press",)}),
    (lambda: Sheet(MACHINE, PLAY), "take", {"n": 3}),
    (lambda: Desk("2 eldest : none"), "say", {"line": "play d5 d3"}),
]


def shown(thing):
    """What two equal results have in common, also if they are objects."""
    if isinstance(thing, Player):
        return "player", thing.machine, thing.state, thing.events()
    if isinstance(thing, Sheet):
        return "sheet", thing.machine, thing.play
    if isinstance(thing, Desk):
        return "desk", shown(thing.player)
    if isinstance(thing, (ValueError, LookupError)):
        return thing.__class__, vars(thing)
    return thing.__class__, thing


def calls():
    """Each function and class of the interface: it, its arguments by position, and those by name only."""
    for module, names in INTERFACE.items():
        for name, arguments in names.items():
            if arguments is None:
                continue
            if isinstance(arguments, dict):
                arguments = arguments["__init__"]
            values = {**VALUES, **ELSE.get(module, {}), **ELSE.get(f"{module}.{name}", {})}
            names_only = arguments.index("*") if "*" in arguments else len(arguments)
            told = [(word.split("=")[0], at > names_only) for at, word in enumerate(arguments)
                    if word not in ("self", "*")]
            call = getattr(importlib.import_module("stolenvoices." + module), name)
            yield (call, {word: values[word] for word, only in told if not only},
                   {word: values[word] for word, only in told if only})


class Names(unittest.TestCase):

    def test_each_in_each_order(self):
        many = 0
        for call, first, rest in calls():
            wanted = shown(call(*first.values(), **rest))
            for order in list(permutations({**first, **rest}.items()))[:24]:
                with self.subTest(call=call.__name__, order=[name for name, _ in order]):
                    self.assertEqual(shown(call(**dict(order))), wanted)
            many += 1
        self.assertEqual(many, 67)

    def test_what_stands_behind_the_star_goes_by_name_only(self):
        for call, first, rest in calls():
            if rest:
                with self.subTest(call.__name__), self.assertRaises(TypeError):
                    call(*first.values(), *rest.values())

    def test_no_other_names(self):
        for call, first, rest in calls():
            with self.subTest(call.__name__), self.assertRaises(TypeError):
                call(**first, **rest, other_name=1)

    def test_methods(self):
        for made, name, values in METHODS:
            one, other = made(), made()
            told = shown(getattr(one, name)(*values.values()))
            self.assertEqual(told, shown(getattr(other, name)(**dict(reversed(values.items())))))
            self.assertEqual(shown(one), shown(other))
            self.assertNotEqual(shown(one), shown(made()))

    def test_equal_calls_have_equal_results_and_change_no_argument(self):
        for call, first, rest in calls():
            with self.subTest(call.__name__):
                copies = deepcopy({**first, **rest, "manager": None})
                found = call(*first.values(), **rest)
                wanted = deepcopy(shown(found))
                if isinstance(found, list):
                    # What a call returns is the caller's own.
                    found.clear()
                elif isinstance(found, (Player, Sheet)):
                    found.undo()
                self.assertEqual(shown(call(*first.values(), **rest)), wanted)
                # A manager has no value to compare.
                self.assertEqual({**first, **rest, "manager": None}, copies)

    def test_lists_in_lists_are_the_callers_own(self):
        groups = importlib.import_module("stolenvoices.lists").groups
        found = groups((OTHER, OTHER), 2)
        found[0].append(7)
        self.assertEqual(groups((OTHER, OTHER), 2), [[0, 1]])


class WorkedExample(unittest.TestCase):

    def test_the_documents_end(self):
        machine, play = (2, ("eldest",), "latest"), (("down", 0), ("down", 1), ("down", 2), ("up", 1))
        self.assertEqual((trace(machine, play), need(play)), (((0,), (0, 1), (1, 2), (0, 2)), 3))
        self.assertEqual((alike((1, ("eldest",), "none"), (1, ("lowest",), "none"), 4),
                          len(parting((1, ("eldest",), "none"), (1, ("refuse",), "none"), 2))), (True, 2))
        self.assertEqual((machine_text((3, ("kept", "eldest"), "latest")), read_play("d5 p u5 l")),
                         ("3 kept eldest : latest", (("down", 5), ("press",), ("up", 5), ("lift",))))

    def test_one_machine_told_in_many_ways(self):
        """A Player, a Sheet, a Desk, a CHAIN of one and a TRACE agree."""
        for machine, play in product((MACHINE, OTHER, (8, ("refuse",), "none")), (PLAY, PLAY[:2])):
            heard = trace(machine, play)
            desk = Desk(machine_text(machine))
            self.assertEqual(Player(machine, play).sound, heard[-1])
            self.assertEqual(Sheet(machine, play).heard(), heard)
            self.assertEqual(chain_trace((machine,), play), heard)
            self.assertEqual([desk.say(f"play {event[0][0]}{event[1]}") for event in play],
                             [",".join(map(str, sound)) or "-" for sound in heard])

    def test_missing_is_no_value_error(self):
        self.assertFalse(issubclass(Missing, ValueError))


if __name__ == "__main__":
    unittest.main()
