"""Whether MACHINEs are ALIKE, COVER one another and GROW, decided for all PLAYs of a BOARD."""

from stolenvoices.boards import following, need_board
from stolenvoices.errors import BadQuestion
from stolenvoices.machines import MOST_VOICES, need_machine, with_voices
from stolenvoices.searching import shortest
from stolenvoices.states import loud_keys, sound_of

BOTH_START = ((False, ()), (False, ()))


def both_following(one, other, states, keys, pedal):
    """The list of the pairs (EVENT of the BOARD, pair of next STATEs) of a pair of STATEs."""
    # Both STATEs allow the same EVENTs, because the same KEYs are down and the PEDALs are equal.
    mine = following(one, states[0], keys, pedal)
    others = following(other, states[1], keys, pedal)
    return [(event, (after, after_other)) for (event, after), (_, after_other) in zip(mine, others)]


def differ(states):
    """Whether the SOUNDs of a pair of STATEs differ."""
    return sound_of(states[0]) != sound_of(states[1])


def lacks(states):
    """Whether some KEY is in the SOUND of the second STATE, but not in that of the first one."""
    mine = loud_keys(states[0][1])
    return any([key not in mine for key in loud_keys(states[1][1])])


def need_question(one, other, keys, pedal):
    """BadMachine of the first one that is no MACHINE, then BadBoard."""
    need_machine(one)
    need_machine(other)
    need_board(keys, pedal)


def parting(one, other, keys, *, pedal=False):
    """A PARTING of two MACHINEs, or None."""
    need_question(one, other, keys, pedal)
    return shortest(BOTH_START, lambda states: both_following(one, other, states, keys, pedal), differ)


def gap(one, other, keys, *, pedal=False):
    """A GAP of the one MACHINE, which should COVER the other, or None."""
    need_question(one, other, keys, pedal)
    return shortest(BOTH_START, lambda states: both_following(one, other, states, keys, pedal), lacks)


def alike(one, other, keys, *, pedal=False):
    """Whether two MACHINEs are ALIKE."""
    return parting(one, other, keys, pedal=pedal) is None


def covers(one, other, keys, *, pedal=False):
    """Whether the one MACHINE COVERS the other."""
    return gap(one, other, keys, pedal=pedal) is None


def grows(machine, keys, *, pedal=False):
    """Whether the MACHINE GROWS: one more VOICE never silences a KEY."""
    voices, _, _ = need_machine(machine)
    need_board(keys, pedal)
    if voices == MOST_VOICES:
        raise BadQuestion("there is no machine with one more voice")
    return covers(with_voices(machine, voices + 1), machine, keys, pedal=pedal)
