"""PLAYs, what they need, and what MACHINEs make of them."""

from stolenvoices.errors import BadPlay
from stolenvoices.events import can_follow
from stolenvoices.machines import need_machine
from stolenvoices.states import START, sound_of
from stolenvoices.steps import cut_key, perform

MOST_EVENTS = 300
# No MACHINE has that many VOICES; with one for each KEY none is ever cut or refused.
ENOUGH = (88, ("refuse",), "none")


def play_fault(thing):
    """The place of the first fault of what should be a PLAY, or None."""
    if not isinstance(thing, tuple) or len(thing) > MOST_EVENTS:
        return ()
    state = START
    for number, event in enumerate(thing):
        if not can_follow(state, event):
            return (number,)
        state, _ = perform(ENOUGH, state, event)
    return None


def need_play(thing):
    """The thing itself, if it is a PLAY; otherwise BadPlay."""
    place = play_fault(thing)
    if place is not None:
        raise BadPlay(place)
    return thing


def is_play(thing):
    """Whether the thing, of any kind, is a PLAY."""
    return play_fault(thing) is None


def states_behind(machine, play):
    """The list of the STATEs behind the EVENTs of a PLAY, beginning with START."""
    state = START
    found = []
    for event in play:
        state, _ = perform(machine, state, event)
        found.append(state)
    return found


def need(play):
    """The NEED of a PLAY."""
    held = [len(row) for _, row in states_behind(ENOUGH, need_play(play))]
    return max(held, default=0)


def trace(machine, play):
    """The TRACE of a PLAY."""
    found = states_behind(need_machine(machine), need_play(play))
    return tuple([sound_of(state) for state in found])


def last_state(machine, play):
    """The STATE behind a PLAY."""
    found = states_behind(need_machine(machine), need_play(play))
    return found[-1] if found else START


def cuts(machine, play):
    """The tuple of the EVENTs that have a VICTIM, by their numbers, each with its KEY."""
    need_machine(machine)
    state = START
    found = []
    for number, event in enumerate(need_play(play)):
        state, done = perform(machine, state, event)
        key = cut_key(done)
        if key is not None:
            found.append((number, key))
    return tuple(found)
