"""CHAINs: MACHINEs each of which plays the KEYs that the one ahead of it leaves silent."""

from stolenvoices.boards import board_events, need_board
from stolenvoices.errors import BadQuestion
from stolenvoices.machines import is_whole, need_machine, with_voices
from stolenvoices.plays import need_play
from stolenvoices.searching import shortest
from stolenvoices.states import START, loud_keys
from stolenvoices.steps import perform

MOST_LINKS = 3


def need_chain(thing):
    """The thing itself, if it is a CHAIN; otherwise BadQuestion or BadMachine."""
    if not isinstance(thing, tuple) or not 1 <= len(thing) <= MOST_LINKS:
        raise BadQuestion("no chain of 1 to 3 machines")
    for item in thing:
        need_machine(item)
    return thing


def event_behind(done):
    """The EVENT that the next MACHINE has behind these DEEDS of the one ahead of it, or None."""
    # No KEY is kept without "press", so a VICTIM always waits.
    for word, key in done:
        if word in ("cut", "refuse"):
            return ("down", key)
        if word in ("back", "leave"):
            return ("up", key)
    return None


def chain_after(chain, states, event):
    """The tuple of the next STATEs of the MACHINEs."""
    found = []
    for machine, state in zip(chain, states):
        if event is not None:
            state, done = perform(machine, state, event)
            event = event_behind(done)
        found.append(state)
    return tuple(found)


def chain_sound(states):
    """The SOUND of a CHAIN whose MACHINEs have these STATEs."""
    return tuple(sorted([key for _, row in states for key in loud_keys(row)]))


def chain_start(chain):
    """The tuple of the first STATEs of the MACHINEs."""
    return (START,) * len(chain)


def chain_played(chain, play):
    """The list of the tuples of STATEs ahead of the PLAY and behind each EVENT; BadPlay, BadQuestion."""
    states = chain_start(need_chain(chain))
    if ("press",) in need_play(play):
        raise BadQuestion("a chain has no pedal")
    found = [states]
    for event in play:
        states = chain_after(chain, states, event)
        found.append(states)
    return found


def chain_trace(chain, play):
    """The tuple of the SOUNDs of the CHAIN behind the EVENTs."""
    found = chain_played(chain, play)
    return tuple([chain_sound(states) for states in found[1:]])


def chain_states(chain, play):
    """The tuple of the STATEs of the MACHINEs behind the PLAY."""
    return chain_played(chain, play)[-1]


def chains_following(one, other, node, keys):
    """The list of the pairs (EVENT, next node); a node is a pair of the STATEs of both CHAINs."""
    mine, others = node
    # The first STATE of each CHAIN tells which KEYs are down.
    return [(event, (chain_after(one, mine, event), chain_after(other, others, event)))
            for event in board_events(mine[0], keys, False)]


def chain_parting(one, other, keys):
    """A PARTING of two CHAINs, or None."""
    start = (chain_start(need_chain(one)), chain_start(need_chain(other)))
    need_board(keys, False)
    return shortest(start, lambda node: chains_following(one, other, node, keys),
                    lambda behind: chain_sound(behind[0]) != chain_sound(behind[1]))


def chain_alike(one, other, keys):
    """Whether two CHAINs are ALIKE."""
    return chain_parting(one, other, keys) is None


def splits(machine, n, keys):
    """Whether the MACHINE SPLITS at a number of VOICES."""
    voices, _, _ = need_machine(machine)
    if not is_whole(n, 1, voices - 1):
        raise BadQuestion("no number at which the machine could split")
    return chain_alike((machine,), (with_voices(machine, n), with_voices(machine, voices - n)), keys)
