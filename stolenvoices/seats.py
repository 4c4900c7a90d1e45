"""Voices by NUMBERs: SEATINGs by each of the WAYs, and WAYs that SEAT ALIKE.

Seats are a pair of a SEATING and what the WAY remembers beside it. Voices are
told by their places in the SEATING, which begin with 0; NUMBERs begin with 1.
"""

from stolenvoices.boards import board_events, need_board
from stolenvoices.errors import BadKey, BadQuestion
from stolenvoices.machines import is_key, is_whole, is_word, need_machine
from stolenvoices.plays import need_play
from stolenvoices.searching import shortest
from stolenvoices.states import START
from stolenvoices.steps import perform

WAYS = ("least", "round", "longest", "own")


def need_way(thing):
    """The thing itself, if it is a WAY; otherwise BadQuestion."""
    if not is_word(thing, WAYS):
        raise BadQuestion("no way to number the voices")
    return thing


def first_seats(way, voices):
    """The seats at START."""
    memory = ()
    if way == "round":
        # As if the last voice was got last, so that the least one is next.
        memory = voices - 1
    if way == "longest":
        memory = tuple(range(voices))
    return (None,) * voices, memory


def place_for(way, seats, key):
    """The place of the voice that a KEY gets."""
    seating, memory = seats
    if way == "longest":
        return memory[0]
    free = [place for place, held in enumerate(seating) if held is None]
    if way == "round":
        behind = [place for place in free if place > memory]
        return min(behind, default=free[0])
    if way == "own":
        return min([place for owner, place in memory if owner == key and place in free], default=free[0])
    return free[0]


def remembered(way, memory, key, place):
    """What the WAY remembers once a KEY has got the voice at a place."""
    if way == "round":
        return place
    if way == "longest":
        return memory[1:]
    if way == "own":
        return tuple(sorted([pair for pair in memory if pair[0] != key] + [(key, place)]))
    return memory


def seats_behind(way, seats, done):
    """The seats behind DEEDS."""
    seating, memory = seats
    for word, key in done:
        if word in ("begin", "back"):
            place = place_for(way, (seating, memory), key)
            memory = remembered(way, memory, key, place)
            seating = (*seating[:place], key, *seating[place + 1:])
        if word in ("end", "cut"):
            place = seating.index(key)
            seating = (*seating[:place], None, *seating[place + 1:])
            if way == "longest":
                memory = (*memory, place)
    return seating, memory


def seatings(machine, way, play):
    """The tuple of the SEATINGs behind the EVENTs of a PLAY."""
    need_machine(machine)
    seats = first_seats(need_way(way), machine[0])
    state = START
    found = []
    for event in need_play(play):
        state, done = perform(machine, state, event)
        seats = seats_behind(way, seats, done)
        found.append(seats[0])
    return tuple(found)


def numbers_used(machine, way, play):
    """The ascending tuple of the NUMBERs that some KEY has behind some EVENT."""
    found = seatings(machine, way, play)
    return tuple(sorted({place + 1 for seating in found
                         for place, held in enumerate(seating) if held is not None}))


def voice_of(machine, way, play, key):
    """The NUMBER that the KEY has behind the PLAY, or None."""
    found = seatings(machine, way, play)
    if not is_key(key):
        raise BadKey(key)
    if not found or key not in found[-1]:
        return None
    return found[-1].index(key) + 1


def events_to_try(machine, ways, state, keys, pedal):
    """The EVENTs of the BOARD that can follow, without those for which another one stands."""
    events = board_events(state, keys, pedal)
    if machine[0] < keys or "own" in ways:
        return events
    # With so many VOICES no KEY is cut or refused, and these WAYs do not know one KEY from another:
    # of the KEYs that are up and silent it does not matter which one goes down.
    held = [key for key, _ in state[1]]
    silent = [event for event in events if event[0] == "down" and event[1] not in held]
    return [event for event in events if event not in silent[1:]]


def seats_following(machine, ways, node, keys, pedal):
    """The list of the pairs (EVENT, next node); a node has a STATE, and the seats by both WAYs."""
    found = []
    for event in events_to_try(machine, ways, node[0], keys, pedal):
        after, done = perform(machine, node[0], event)
        seats = [seats_behind(way, before, done) for way, before in zip(ways, node[1:])]
        found.append((event, (after, *seats)))
    return found


def seat_parting(machine, one, other, keys, *, pedal=False):
    """A SEAT PARTING of two WAYs, or None."""
    need_machine(machine)
    ways = (need_way(one), need_way(other))
    need_board(keys, pedal)
    if one == other:
        return None
    start = (START, *[first_seats(way, machine[0]) for way in ways])
    return shortest(start, lambda node: seats_following(machine, ways, node, keys, pedal),
                    lambda behind: behind[1][0] != behind[2][0])


def seat_alike(machine, one, other, keys, *, pedal=False):
    """Whether two WAYs SEAT ALIKE."""
    return seat_parting(machine, one, other, keys, pedal=pedal) is None


def numbers_had(machine, way, key, keys, *, pedal=False):
    """The ascending tuple of the NUMBERs that the KEY has behind some PLAYs of the BOARD."""
    voices, _, _ = need_machine(machine)
    need_way(way)
    need_board(keys, pedal)
    if not is_whole(key, 0, keys - 1):
        raise BadKey(key)
    # No search is needed. By "round" and "longest" a KEY that goes down and up alone has each NUMBER in turn.
    # By the others a KEY gets a NUMBER that it had, or the least free one, which is at most one more than
    # there are other KEYs; and it gets N if it goes down for the first time when N - 1 others are down.
    most = voices if way in ("round", "longest") else min(voices, keys)
    return tuple(range(1, most + 1))
