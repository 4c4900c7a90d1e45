"""Which error is raised if two are due: point [1], and the words ahead of the interface's headings."""

import unittest
from itertools import combinations

from stolenvoices import (
    boards, chains, cutting, deciding, desk, finding, lists, papers, players, plays, seats, sheets,
    states, steps, texts)
from stolenvoices.errors import (
    BadBoard, BadEvent, BadKey, BadMachine, BadPlay, BadQuestion, BadState, BadText, BadTrace)
from stolenvoices.states import START

GOOD = (1, ("eldest",), "none")
# For each kind of argument: a good one, and bad ones with the error and what it tells.
FIRST = (GOOD, [((0, ("eldest",), "none"), BadMachine, ("voices",))])
SECOND = (GOOD, [((1, ("eldest",), 0), BadMachine, ("return",)), (None, BadMachine, ())])
STATE = (START, [((0, ()), BadState, ("pedal",)), ([], BadState, ())])
EVENT = (("down", 1), [(("up", 1), BadEvent, ("up", 1)), (None, BadEvent, None)])
FREE_KEY = (1, [(88, BadKey, 88), (True, BadKey, True), (None, BadKey, None)])
PLAY = ((), [([], BadPlay, ()), ((("up", 1),), BadPlay, (0,))])
KEYS = (3, [(5, BadBoard, 5), (0, BadBoard, 0), (None, BadBoard, None)])
PEDAL = (True, [(None, BadBoard, 3), (1, BadBoard, 3)])
BOARD_KEY = (1, [(3, BadKey, 3), (-1, BadKey, -1), (None, BadKey, None)])
MACHINES = ((GOOD,), [([], BadQuestion, None), ((None,) * 21, BadQuestion, None),
                      ((GOOD, (2, (), "none"), None), BadMachine, ("criteria",))])
HEARD = ((), [([], BadTrace, ()), (((),), BadTrace, ()), (None, BadTrace, ())])
FULL = (GOOD, [((8, ("eldest",), "none"), BadQuestion, None)])
# A text that cannot be read is told ahead of a MACHINE or PLAY that is none.
TEXT = ("1 eldest : none", [(None, BadText, ()), ("0 kept none", BadText, (2,)),
                            ("0 eldest : none", BadMachine, ("voices",))])
PLAY_TEXT = ("d1", [(None, BadText, ()), ("u1 x", BadText, (1,)), ("d88", BadPlay, (0,))])
WAY = ("own", [("none", BadQuestion, None), (None, BadQuestion, None)])
CHAIN = ((GOOD,), [((), BadQuestion, None), ((None,) * 4, BadQuestion, None),
                   ((GOOD, (2, (), "none"), None), BadMachine, ("criteria",))])
SILENT = ((), [([], BadPlay, ()), ((("press",), ("up", 1)), BadPlay, (1,)), ((("press",),), BadQuestion, None)])
PART = (1, [(0, BadQuestion, None), (2, BadQuestion, None), (True, BadQuestion, None)])
TWO = ((2, ("eldest",), "none"), FIRST[1])
# The arguments of each function in the order in which they are looked at.
BOARD = (("keys", KEYS), ("pedal", PEDAL))
PLAYED = (("machine", FIRST), ("play", PLAY))
STEPPED = (("machine", FIRST), ("state", STATE), ("event", EVENT))
PAIR = (("one", FIRST), ("other", SECOND), *BOARD)
CUT = (("machine", FIRST), *BOARD, ("key", BOARD_KEY))
LISTED = (("machine", FIRST), *BOARD)
SEATED = (("machine", FIRST), ("way", WAY), ("play", PLAY))
WAYS = (("machine", FIRST), ("one", WAY), ("other", WAY), *BOARD)
CHAINS = (("one", CHAIN), ("other", CHAIN), ("keys", KEYS))
ORDERS = [
    (states.need_state, (("machine", FIRST), ("thing", STATE))),
    (states.sound, (("machine", FIRST), ("state", STATE))),
    (steps.step, STEPPED), (steps.deeds, STEPPED),
    (steps.victim, (("machine", FIRST), ("state", STATE), ("key", FREE_KEY))),
    (plays.need, (("play", PLAY),)),
    (plays.trace, PLAYED), (plays.last_state, PLAYED), (plays.cuts, PLAYED),
    (boards.reached, LISTED),
    (deciding.alike, PAIR), (deciding.covers, PAIR), (deciding.parting, PAIR), (deciding.gap, PAIR),
    (deciding.grows, LISTED), (deciding.grows, (*BOARD, ("machine", FULL))),
    (papers.paper, PAIR),
    (cutting.cut_play, CUT), (cutting.silent_play, CUT), (cutting.sure_keys, LISTED),
    (lists.needless, LISTED), (lists.lean, LISTED), (lists.groups, (("machines", MACHINES), *BOARD)),
    (finding.need_trace, (("play", PLAY), ("thing", HEARD))),
    (finding.fitting, (("machines", MACHINES), ("play", PLAY), ("heard", HEARD))),
    (finding.asking, (("machines", MACHINES), *BOARD)),
    (players.Player, PLAYED), (sheets.Sheet, PLAYED),
    (texts.machine_text, (("machine", FIRST),)), (texts.play_text, (("play", PLAY),)),
    (texts.read_machine, (("text", TEXT),)), (texts.read_play, (("text", PLAY_TEXT),)),
    (desk.Desk, (("text", TEXT),)),
    (seats.seatings, SEATED), (seats.numbers_used, SEATED),
    (seats.voice_of, (*SEATED, ("key", FREE_KEY))),
    (seats.seat_alike, WAYS), (seats.seat_parting, WAYS),
    (seats.numbers_had, (("machine", FIRST), ("way", WAY), *BOARD, ("key", BOARD_KEY))),
    (chains.chain_trace, (("chain", CHAIN), ("play", SILENT))),
    (chains.chain_states, (("chain", CHAIN), ("play", SILENT))),
    (chains.chain_alike, CHAINS), (chains.chain_parting, CHAINS),
    (chains.splits, (("machine", TWO), ("n", PART), ("keys", KEYS))),
]
ATTRIBUTES = {BadMachine: "place", BadState: "place", BadPlay: "place", BadTrace: "place",
              BadText: "place", BadEvent: "event", BadKey: "key", BadBoard: "many"}


class Orders(unittest.TestCase):

    def raised(self, call, arguments, error, told):
        with self.subTest(call=call.__name__, arguments=arguments):
            with self.assertRaises(error) as caught:
                call(**arguments)
            self.assertIs(caught.exception.__class__, error)
            if error in ATTRIBUTES:
                self.assertEqual(getattr(caught.exception, ATTRIBUTES[error]), told)

    def test_one_is_due(self):
        for call, order in ORDERS:
            good = {name: kind[0] for name, kind in order}
            call(**good)
            for name, (_, wrong) in order:
                for bad, error, told in wrong:
                    self.raised(call, {**good, name: bad}, error, told)

    def test_two_are_due(self):
        for call, order in ORDERS:
            good = {name: kind[0] for name, kind in order}
            for (name, (_, wrong)), (later, (_, others)) in combinations(order, 2):
                for bad, error, told in wrong:
                    for other, _, _ in others:
                        self.raised(call, {**good, name: bad, later: other}, error, told)

    def test_is_paper_looks_at_the_machines_and_then_at_the_board(self):
        good = {name: kind[0] for name, kind in PAIR}
        for thing in ((), None, papers.paper(**good)):
            for (name, (_, wrong)), (later, (_, others)) in combinations(PAIR, 2):
                for bad, error, told in wrong:
                    for other, _, _ in others:
                        self.raised(papers.is_paper, {**good, "thing": thing, name: bad, later: other},
                                    error, told)

    def test_no_pedal_unless_it_is_told(self):
        for call, order in ORDERS:
            good = {name: kind[0] for name, kind in order}
            if "pedal" in good:
                del good["pedal"]
                # With a pedal this would be no BOARD.
                call(**{**good, "keys": 4})

    def test_all_are_due(self):
        for call, order in ORDERS:
            arguments = {name: kind[1][0][0] for name, kind in order}
            _, error, told = order[0][1][1][0]
            self.raised(call, arguments, error, told)


if __name__ == "__main__":
    unittest.main()
