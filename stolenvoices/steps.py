"""The STEP from a STATE to the next one, its DEEDS, and the VICTIM of a KEY."""

from stolenvoices.errors import BadEvent, BadKey
from stolenvoices.events import can_follow
from stolenvoices.machines import is_key
from stolenvoices.states import need_state


def without(row, key):
    """ROW without the pair of the KEY."""
    return tuple([pair for pair in row if pair[0] != key])


def marked(row, keys, mark):
    """ROW with the MARK at these KEYs, each in its place."""
    return tuple([(pair[0], mark) if pair[0] in keys else pair for pair in row])


def chosen(keys, word):
    """The KEY that an END or a RETURN chooses of some in the order of ROW, or None."""
    if word == "eldest":
        return keys[0]
    if word == "latest":
        return keys[-1]
    if word == "lowest":
        return min(keys)
    if word == "highest":
        return max(keys)
    return None


def outer_keys(word, loud):
    """The KEYs that "inner", "notlow" or "nothigh" takes out of the CANDIDATEs."""
    keys = [pair[0] for pair in loud]
    outer = []
    if word != "nothigh":
        outer.append(min(keys))
    if word != "notlow":
        outer.append(max(keys))
    return outer


def left_by(word, candidates, loud, key):
    """The CANDIDATEs that a FILTER would leave, perhaps none."""
    if word == "kept":
        return [pair for pair in candidates if pair[1] == "kept"]
    if word in ("below", "under"):
        return [pair for pair in candidates if pair[0] < key]
    if word in ("above", "over"):
        return [pair for pair in candidates if pair[0] > key]
    outer = outer_keys(word, loud)
    return [pair for pair in candidates if pair[0] not in outer]


def victim_among(criteria, loud, key):
    """The KEY of the VICTIM among the LOUD pairs, or None."""
    candidates = loud
    for word in criteria[:-1]:
        left = left_by(word, candidates, loud, key)
        if not left and word in ("under", "over"):
            return None
        candidates = left or candidates
    return chosen([pair[0] for pair in candidates], criteria[-1])


def go_down(machine, row, key):
    """ROW behind the "down" of a KEY, and the DEEDS."""
    voices, criteria, _ = machine
    if (key, "kept") in row:
        return (*without(row, key), (key, "sounds")), (("again", key),)
    loud = [pair for pair in row if pair[1] != "waits"]
    if len(loud) < voices:
        return (*row, (key, "sounds")), (("begin", key),)
    cut = victim_among(criteria, loud, key)
    if cut is None:
        return (*row, (key, "waits")), (("refuse", key),)
    rest = without(row, cut) if (cut, "kept") in row else marked(row, [cut], "waits")
    return (*rest, (key, "sounds")), (("cut", cut), ("begin", key))


def come_back(machine, row, done):
    """ROW behind all RETURNs, and all DEEDS; done: the tuple of those ahead of them."""
    voices, _, returning = machine
    if returning == "none":
        return row, done
    waiting = [key for key, mark in row if mark == "waits"]
    free = voices - (len(row) - len(waiting))
    many = min(free, len(waiting))
    back = []
    for _ in range(many):
        key = chosen(waiting, returning)
        waiting.remove(key)
        back.append(key)
    return marked(row, back, "sounds"), done + tuple([("back", key) for key in back])


def go_up(machine, state, key):
    """ROW behind the "up" of a KEY, and the DEEDS."""
    pedal, row = state
    if (key, "waits") in row:
        return come_back(machine, without(row, key), (("leave", key),))
    if pedal:
        return marked(row, [key], "kept"), (("keep", key),)
    return come_back(machine, without(row, key), (("end", key),))


def lift(machine, row):
    """ROW behind "lift", and the DEEDS."""
    rest = tuple([pair for pair in row if pair[1] != "kept"])
    ended = [("end", key) for key, mark in row if mark == "kept"]
    return come_back(machine, rest, tuple(ended))


def perform(machine, state, event):
    """The next STATE and the DEEDS of an EVENT that is known to follow."""
    pedal, row = state
    word = event[0]
    if word == "press":
        return (True, row), ()
    if word == "lift":
        after, done = lift(machine, row)
        return (False, after), done
    if word == "down":
        after, done = go_down(machine, row, event[1])
    else:
        after, done = go_up(machine, state, event[1])
    return (pedal, after), done


def cut_key(done):
    """The KEY of the VICTIM that DEEDS tell, or None."""
    for word, key in done:
        if word == "cut":
            return key
    return None


def need_event(machine, state, event):
    """BadState, then BadEvent of what is no EVENT that can follow in the STATE."""
    if not can_follow(need_state(machine, state), event):
        raise BadEvent(event)


def step(machine, state, event):
    """The next STATE."""
    need_event(machine, state, event)
    return perform(machine, state, event)[0]


def deeds(machine, state, event):
    """The DEEDS of the STEP."""
    need_event(machine, state, event)
    return perform(machine, state, event)[1]


def victim(machine, state, key):
    """The KEY of the VICTIM that a KEY, neither down nor kept, would have, or None."""
    _, row = need_state(machine, state)
    if not is_key(key) or key in [pair[0] for pair in row]:
        raise BadKey(key)
    return cut_key(perform(machine, state, ("down", key))[1])
