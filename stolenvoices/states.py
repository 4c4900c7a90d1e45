"""STATEs of a MACHINE: the pedal, and the KEYs that are down or sound."""

from stolenvoices.errors import BadState
from stolenvoices.machines import is_key, is_word, need_machine

START = (False, ())
MARKS = ("sounds", "kept", "waits")


def is_pair(thing):
    """Whether the thing, of any kind, is a pair of a KEY and a MARK."""
    if not isinstance(thing, tuple) or len(thing) != 2:
        return False
    return is_key(thing[0]) and is_word(thing[1], MARKS)


def loud_keys(row):
    """The list of the KEYs of the LOUD pairs, in the order of ROW."""
    return [key for key, mark in row if mark != "waits"]


def down_keys(row):
    """The list of the KEYs of ROW that are down, in the order of ROW."""
    return [key for key, mark in row if mark != "kept"]


def sound_of(state):
    """The SOUND of what is known to be a STATE."""
    return tuple(sorted(loud_keys(state[1])))


def can_be_next(voices, pedal, before, thing):
    """Whether the thing, of any kind, can follow in ROW behind the pairs before it."""
    if not is_pair(thing):
        return False
    key, mark = thing
    if key in [pair[0] for pair in before]:
        return False
    if mark == "kept" and not pedal:
        return False
    return mark == "waits" or len(loud_keys(before)) < voices


def row_fault(voices, pedal, row):
    """The place of the first fault of ROW by itself, or None."""
    if not isinstance(row, tuple):
        return ("row",)
    for number in range(len(row)):
        if not can_be_next(voices, pedal, row[:number], row[number]):
            return ("row", number)
    return None


def waits_in_vain(machine, row):
    """Whether a pair waits in ROW though it would have returned."""
    voices, _, returning = machine
    loud = len(loud_keys(row))
    return returning != "none" and loud < voices and loud < len(row)


def state_fault(machine, thing):
    """The place of the first fault of what should be a STATE, or None."""
    if not isinstance(thing, tuple) or len(thing) != 2:
        return ()
    pedal, row = thing
    if not isinstance(pedal, bool):
        return ("pedal",)
    place = row_fault(machine[0], pedal, row)
    if place is None and waits_in_vain(machine, row):
        return ("waits",)
    return place


def need_state(machine, thing):
    """The thing itself, if it is a STATE of the MACHINE; otherwise BadState."""
    place = state_fault(need_machine(machine), thing)
    if place is not None:
        raise BadState(place)
    return thing


def is_state(machine, thing):
    """Whether the thing, of any kind, is a STATE of the MACHINE."""
    return state_fault(need_machine(machine), thing) is None


def sound(machine, state):
    """The SOUND: the ascending tuple of the KEYs of the LOUD pairs."""
    return sound_of(need_state(machine, state))
