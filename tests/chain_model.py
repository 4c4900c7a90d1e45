"""The words of DOC.md about CHAINs once more, and a plain search, for the tests alone."""

from tests import model


def waiting(state):
    return {key for key, mark in state[1] if mark == "waits"}


def chain_after(chain, states, event):
    """The next STATEs; which KEYs begin or cease to wait is seen by the STATEs alone."""
    found = []
    for machine, state in zip(chain, states):
        new = state
        if event is not None:
            new, _ = model.after(machine, state, event)
            begun, ceased = waiting(new) - waiting(state), waiting(state) - waiting(new)
            assert len(begun | ceased) <= 1
            event = None
            for key in begun:
                event = ("down", key)
            for key in ceased:
                event = ("up", key)
        found.append(new)
    return tuple(found)


def states_behind(chain, play):
    """The list of the tuples of STATEs behind the EVENTs."""
    states, found = start_of(chain), []
    for event in play:
        states = chain_after(chain, states, event)
        found.append(states)
    return found


def start_of(chain):
    return tuple(model.START for _ in chain)


def sound_of(states):
    return tuple(sorted(key for state in states for key in model.sound_in(state)))


def fewest_apart(one, other, keys):
    """The fewest EVENTs behind which the SOUNDs of two CHAINs differ, or None."""
    level, seen, many = {(start_of(one), start_of(other))}, set(), 0
    while level:
        if any(sound_of(mine) != sound_of(others) for mine, others in level):
            return many
        seen |= level
        level = {(chain_after(one, mine, event), chain_after(other, others, event)) for mine, others in level
                 for event in model.events_in(mine[0], keys, False)} - seen
        many += 1
    return None
