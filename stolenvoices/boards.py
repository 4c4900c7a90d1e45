"""BOARDs: their EVENTs, and the STATEs to which their PLAYs lead."""

from stolenvoices.errors import BadBoard
from stolenvoices.machines import is_whole, need_machine
from stolenvoices.searching import all_nodes
from stolenvoices.states import START, down_keys
from stolenvoices.steps import perform

MOST_KEYS = 4
MOST_KEYS_WITH_PEDAL = 3


def need_board(keys, pedal):
    """BadBoard of what is no number of KEYs and whether there is a pedal."""
    if pedal is not True and pedal is not False:
        raise BadBoard(keys)
    if not is_whole(keys, 1, MOST_KEYS_WITH_PEDAL if pedal else MOST_KEYS):
        raise BadBoard(keys)


def board_events(state, keys, pedal):
    """The ascending list of the EVENTs of what is known to be a BOARD."""
    down = down_keys(state[1])
    found = [("down", key) for key in range(keys) if key not in down]
    if pedal:
        found.append(("lift",) if state[0] else ("press",))
    return found + [("up", key) for key in range(keys) if key in down]


def events_at(state, keys, *, pedal=False):
    """The ascending list of the EVENTs of the BOARD that can follow in a STATE."""
    need_board(keys, pedal)
    return board_events(state, keys, pedal)


def following(machine, state, keys, pedal):
    """The list of the pairs (EVENT of the BOARD, next STATE) of a STATE, ascending."""
    return [(event, perform(machine, state, event)[0]) for event in board_events(state, keys, pedal)]


def reached(machine, keys, *, pedal=False):
    """The ascending tuple of the STATEs to which PLAYs of the BOARD lead."""
    need_machine(machine)
    need_board(keys, pedal)
    return tuple(sorted(all_nodes(START, lambda state: following(machine, state, keys, pedal))))
