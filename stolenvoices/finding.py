"""What was heard of a PLAY: which MACHINEs it fits, and which PLAY to ask for next."""

from stolenvoices.boards import need_board
from stolenvoices.deciding import parting
from stolenvoices.errors import BadTrace
from stolenvoices.lists import need_machines
from stolenvoices.machines import is_key
from stolenvoices.papers import ascends
from stolenvoices.plays import need_play, trace


def can_sound(thing):
    """Whether the thing, of any kind, is an ascending tuple of KEYs, all different."""
    return isinstance(thing, tuple) and all([is_key(item) for item in thing]) and ascends(thing)


def trace_fault(play, thing):
    """The place of the first fault of what should be a TRACE of the PLAY, or None."""
    if not isinstance(thing, tuple) or len(thing) != len(play):
        return ()
    for number, item in enumerate(thing):
        if not can_sound(item):
            return (number,)
    return None


def need_trace(play, thing):
    """The thing itself, if it has the form of a TRACE of the PLAY; otherwise BadTrace."""
    place = trace_fault(need_play(play), thing)
    if place is not None:
        raise BadTrace(place)
    return thing


def fitting(machines, play, heard):
    """The ascending list of the numbers of the MACHINEs whose TRACE of the PLAY is heard."""
    need_machines(machines)
    need_trace(play, heard)
    return [number for number, machine in enumerate(machines) if trace(machine, play) == heard]


def asking(machines, keys, *, pedal=False):
    """A PLAY with as few EVENTs as any that have not the same TRACE by all MACHINEs, or None."""
    need_machines(machines)
    need_board(keys, pedal)
    # Not all have the same TRACE exactly if some other one has not that of the first one.
    splits = [parting(machines[0], other, keys, pedal=pedal) for other in machines[1:]]
    return min([play for play in splits if play is not None], key=len, default=None)
