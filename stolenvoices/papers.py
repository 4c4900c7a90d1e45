"""PAPERs: that a MACHINE COVERS another one, written down as pairs of STATEs."""

from stolenvoices.deciding import BOTH_START, both_following, covers, lacks, need_question
from stolenvoices.searching import all_nodes
from stolenvoices.states import down_keys, is_state


def paper(one, other, keys, *, pedal=False):
    """The LEAST PAPER that the one MACHINE COVERS the other, or None."""
    if not covers(one, other, keys, pedal=pedal):
        return None
    return tuple(sorted(all_nodes(BOTH_START, lambda states: both_following(one, other, states, keys, pedal))))


def is_pair(one, other, thing):
    """Whether the thing, of any kind, is a pair that may stand in a PAPER."""
    if not isinstance(thing, tuple) or len(thing) != 2:
        return False
    if not is_state(one, thing[0]) or not is_state(other, thing[1]):
        return False
    (pedal, row), (other_pedal, other_row) = thing
    same_down = sorted(down_keys(row)) == sorted(down_keys(other_row))
    return same_down and pedal == other_pedal and not lacks(thing)


def ascends(pairs):
    """Whether the pairs of a tuple ascend, all different."""
    return all([before < after for before, after in zip(pairs, pairs[1:])])


def is_closed(one, other, pairs, keys, pedal):
    """Whether the EVENTs of the BOARD lead from pairs only to pairs among them."""
    known = {states: True for states in pairs}
    found = [after for states in pairs for _, after in both_following(one, other, states, keys, pedal)]
    return all([after in known for after in found])


def is_paper(one, other, thing, keys, *, pedal=False):
    """Whether the thing, of any kind, is a PAPER that the one MACHINE COVERS the other."""
    need_question(one, other, keys, pedal)
    if not isinstance(thing, tuple) or not all([is_pair(one, other, item) for item in thing]):
        return False
    return BOTH_START in thing and ascends(thing) and is_closed(one, other, thing, keys, pedal)
