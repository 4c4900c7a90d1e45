"""Which KEYs of a BOARD can be CUT or SILENCED, and by which PLAYs."""

from stolenvoices.boards import board_events, following, need_board, reached
from stolenvoices.errors import BadKey
from stolenvoices.machines import is_whole, need_machine
from stolenvoices.searching import shortest
from stolenvoices.states import START
from stolenvoices.steps import cut_key, perform


def need_question(machine, key, keys, pedal):
    """BadMachine, then BadBoard, then BadKey of what is no KEY of the BOARD."""
    need_machine(machine)
    need_board(keys, pedal)
    if not is_whole(key, 0, keys - 1):
        raise BadKey(key)


def cuts_following(machine, state, keys, pedal):
    """The list of the pairs (EVENT, (next STATE, KEY of the VICTIM or None)) of a STATE."""
    found = []
    for event in board_events(state, keys, pedal):
        after, done = perform(machine, state, event)
        found.append((event, (after, cut_key(done))))
    return found


def cut_play(machine, key, keys, *, pedal=False):
    """A PLAY with as few EVENTs as any, the last of which has the KEY as its VICTIM, or None."""
    need_question(machine, key, keys, pedal)
    return shortest((START, None), lambda node: cuts_following(machine, node[0], keys, pedal),
                    lambda behind: behind[1] == key)


def silent_play(machine, key, keys, *, pedal=False):
    """A PLAY with as few EVENTs as any behind which the KEY waits, or None."""
    need_question(machine, key, keys, pedal)
    return shortest(START, lambda state: following(machine, state, keys, pedal),
                    lambda behind: (key, "waits") in behind[1])


def sure_keys(machine, keys, *, pedal=False):
    """The ascending tuple of the SURE KEYs."""
    states = reached(machine, keys, pedal=pedal)
    waiting = [key for _, row in states for key, mark in row if mark == "waits"]
    return tuple([key for key in range(keys) if key not in waiting])
