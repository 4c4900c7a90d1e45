"""The package's form: the rules of LANGUAGE.md, and the interface of DOC.md as far as it landed."""

import ast
import os
import re
import unittest

from tests import language

FOLDER = os.path.join(os.path.dirname(os.path.dirname(os.path.abspath(__file__))), "stolenvoices")
PLACE, ITSELF = ["self", "place"], ["thing"]
PLAYED = ["machine", "play"]
BOARD = ["keys", "*", "pedal=False"]
PAIR = ["one", "other", *BOARD]
SEATED = ["machine", "way", "play"]
ALONE = ["self"]
PROPERTY = ["property", "self"]
INTERFACE = {
    "errors": {
        "VoiceError": None, "BadMachine": PLACE, "BadPlay": PLACE, "BadState": PLACE,
        "BadTrace": PLACE, "BadText": PLACE, "BadEvent": ["self", "event"],
        "BadKey": ["self", "key"], "BadBoard": ["self", "many"], "BadQuestion": None,
        "Missing": ["self", "number"],
    },
    "machines": {
        "is_key": ITSELF, "need_machine": ITSELF, "is_machine": ITSELF,
        "with_voices": ["machine", "voices"], "mirrored": ["machine"],
    },
    "states": {
        "need_state": ["machine", "thing"], "is_state": ["machine", "thing"],
        "sound": ["machine", "state"],
    },
    "steps": {
        "step": ["machine", "state", "event"], "deeds": ["machine", "state", "event"],
        "victim": ["machine", "state", "key"],
    },
    "plays": {
        "need_play": ITSELF, "is_play": ITSELF, "need": ["play"], "trace": PLAYED,
        "last_state": PLAYED, "cuts": PLAYED,
    },
    "boards": {
        "need_board": ["keys", "pedal"], "events_at": ["state", *BOARD],
        "reached": ["machine", *BOARD],
    },
    "deciding": {
        "alike": PAIR, "covers": PAIR, "parting": PAIR, "gap": PAIR, "grows": ["machine", *BOARD],
    },
    "papers": {"paper": PAIR, "is_paper": ["one", "other", "thing", *BOARD]},
    "cutting": {
        "cut_play": ["machine", "key", *BOARD], "silent_play": ["machine", "key", *BOARD],
        "sure_keys": ["machine", *BOARD],
    },
    "lists": {
        "needless": ["machine", *BOARD], "lean": ["machine", *BOARD], "groups": ["machines", *BOARD],
    },
    "finding": {
        "need_trace": ["play", "thing"], "fitting": ["machines", "play", "heard"],
        "asking": ["machines", *BOARD],
    },
    "players": {
        "Player": {
            "__init__": ["self", "machine", "play=()"], "machine": PROPERTY, "state": PROPERTY,
            "sound": PROPERTY, "pedal": PROPERTY, "__call__": ["self", "event"],
            "__iadd__": ["self", "other"], "__getitem__": ["self", "at"],
            "__setitem__": ["self", "at", "worth"], "__contains__": ["self", "x"], "__len__": ALONE,
            "__eq__": ["self", "other"], "events": ALONE, "undo": ALONE, "trial": ALONE,
        },
        "under": ["manager", "deed"],
    },
    "sheets": {
        "Sheet": {
            "__init__": ["self", "machine", "play=()"], "play": PROPERTY, "machine": PROPERTY,
            "use": ["self", "machine"], "heard": ALONE, "need": ALONE, "__getitem__": ["self", "at"],
            "__setitem__": ["self", "at", "worth"], "put": ["self", "n", "event"], "take": ["self", "n"],
            "__len__": ALONE, "undo": ALONE,
        },
    },
    "texts": {
        "machine_text": ["machine"], "play_text": ["play"], "sound_text": ["keys"],
        "read_machine": ["text"], "read_play": ["text"],
    },
    "desk": {"Desk": {"__init__": ["self", "text"], "say": ["self", "line"]}},
    "seats": {
        "need_way": ITSELF, "seatings": SEATED, "numbers_used": SEATED, "voice_of": [*SEATED, "key"],
        "seat_alike": ["machine", *PAIR], "seat_parting": ["machine", *PAIR],
        "numbers_had": ["machine", "way", "key", *BOARD],
    },
    "chains": {
        "need_chain": ITSELF, "chain_trace": ["chain", "play"], "chain_states": ["chain", "play"],
        "chain_alike": ["one", "other", "keys"], "chain_parting": ["one", "other", "keys"],
        "splits": ["machine", "n", "keys"],
    },
}
BAD_CODE = {
    "L10": ["x = 1\t\n", "x = 1  #" + "-" * 120, "x = 0\n" * 400,
            "def go():\n" + "    pass\n" * 40],
    "L14": ["# \u00e9\n"],
    "L3": ["print(1)\n", "a, b = 1, 2\n", "a = b = 1\n", "x = len('a')\n", "if True:\n    pass\n"],
    "L2": ["from os import path\n", "from . import plays\n", "from stolenvoices.none import a\n",
           "from math import gcd as g\n", "x = 1\nfrom math import gcd\n", "from math import pi\n"],
    "L6": ["class A:\n    def __exit__(self, *told):\n        self.go()\n", "import math\n",
           "def go():\n    global x\n", "def go(a):\n    return a / 2\n"],
    "L5": ["@made\nclass A:\n    pass\n",
           "class A:\n    def __getitem__(self, at):\n        return at\n",
           "class A:\n    def __len__(self):\n        self.x = 1\n        return len(self.x)\n",
           "class A:\n    @property\n    def x(self):\n        self.rows.append(1)\n        return 1\n",
           "class A:\n    def __contains__(self, x):\n        x += 1\n        return x\n",
           "def go(rows):\n    rows.pop()\n    return rows\n\n\ndef do(rows):\n    return go(rows)\n\n\n"
           "class A:\n    def __eq__(self, other):\n        return do(self.rows)\n",
           "class A:\n    def __setitem__(self, at, worth):\n        self(at)\n"],
    "L28": ["class A:\n    def __len__(self):\n        return self.many\n"],
    "L4": ["@made\ndef go():\n    pass\n"],
    "L7": ["x = 1.5\n"],
    "L27": ["x = 'a%b'\n", "def go(x):\n    return 1if x else 2\n"],
    "L17": ["def go(a):\n    return a.type\n", "x = 'a typing b'\n"],
    "L8": ["def go(a):\n    return chr(a)\n", "def go(a):\n    return round(a)\n",
           "def __go(a):\n    return a\n"],
    "L12": ["def _law_(a):\n    return a\n"],
    "L15": ["def go(id):\n    return id\n", "def hash(a):\n    return a\n", "x = 1\nx = 2\n",
            "class A:\n    pass\n\n\ndef go(A):\n    return A\n"],
    "L19": ["def go():\n    try:\n        pass\n    except Exception:\n        pass\n",
            "def go(a):\n    raise a\n"],
    "L20": ["def go(a, b):\n    return a is b\n"],
    "L25": ["def go(a):\n    return a.format(1)\n"],
}


def sources():
    """The sources of the package by the names of their modules."""
    found = {}
    for name in sorted(os.listdir(FOLDER)):
        if name != "__pycache__":
            with open(os.path.join(FOLDER, name), encoding="utf-8") as file:
                found["stolenvoices." + name.removesuffix(".py")] = file.read()
    return found


class Language(unittest.TestCase):

    def test_the_folder_holds_only_plain_python_files(self):
        names = [name for name in os.listdir(FOLDER) if name != "__pycache__"]
        self.assertIn("__init__.py", names)
        for name in names:
            self.assertTrue(re.fullmatch("[a-z0-9_]+[.]py", name), name)

    def test_each_file_keeps_the_rules(self):
        texts = sources()
        for name, text in texts.items():
            self.assertEqual(language.faults(text, texts), [], name)

    def test_no_two_files_import_from_each_other(self):
        self.assertEqual(language.cycles(sources()), [])
        self.assertEqual(language.cycles({"a": "from b import x\n", "b": "from a import y\n"}),
                         ["a", "b"])

    def test_bad_code_is_found(self):
        for rule, codes in BAD_CODE.items():
            for code in codes:
                found = language.faults(code)
                self.assertTrue([row for row in found if re.match(rule + r"\b", row)], (rule, code))


class Interface(unittest.TestCase):

    def test_each_is_defined_in_its_file_with_its_arguments(self):
        texts = sources()
        for module, wanted in INTERFACE.items():
            self.defined(ast.parse(texts["stolenvoices." + module]).body, wanted)

    def defined(self, body, wanted):
        """The rows define all that is wanted, each method in the class itself."""
        nodes = {node.name: node for node in body if hasattr(node, "name")}
        for name, arguments in wanted.items():
            with self.subTest(name):
                if isinstance(arguments, dict):
                    self.defined(nodes[name].body, arguments)
                else:
                    self.assertEqual(self.arguments(nodes[name]), arguments)

    def arguments(self, node):
        """The names of the parameters of a function or an __init__, None if there is none."""
        if isinstance(node, ast.ClassDef):
            made = [item for item in node.body if getattr(item, "name", "") == "__init__"]
            return self.arguments(made[0]) if made else None
        decorators = [ast.unparse(item) for item in node.decorator_list]
        return decorators + ast.unparse(node.args).split(", ")


if __name__ == "__main__":
    unittest.main()
