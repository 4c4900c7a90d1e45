"""The words of DOC.md about STEPs once more, written for the tests alone.

It imports nothing of the package, so that a fault of the one is not in the other.
"""

from collections import deque
from itertools import permutations, product

START = (False, ())
FILTERS = ("kept", "inner", "notlow", "nothigh", "below", "above", "under", "over")
ENDS = ("eldest", "latest", "lowest", "highest", "refuse")
RETURNS = ("none", "eldest", "latest", "lowest", "highest")
BOARDS = [(keys, False) for keys in (1, 2, 3, 4)] + [(keys, True) for keys in (1, 2, 3)]
PURE = ((("eldest",), "latest"), (("refuse",), "eldest"), (("under", "lowest"), "highest"),
        (("over", "highest"), "lowest"))


class Instrument:
    """A MACHINE in some STATE, which changes with each EVENT."""

    def __init__(self, machine, state=START):
        self.voices, self.criteria, self.returning = machine
        self.pedal = state[0]
        self.order = [key for key, _ in state[1]]
        self.mark = dict(state[1])

    def state(self):
        return (self.pedal, tuple((key, self.mark[key]) for key in self.order))

    def loud(self):
        return [key for key in self.order if self.mark[key] != "waits"]

    def sound(self):
        return tuple(sorted(self.loud()))

    def victim(self, new):
        loud = self.loud()
        if len(loud) < self.voices:
            return None
        low, high = min(loud), max(loud)
        stays = {
            "kept": lambda key: self.mark[key] == "kept",
            "notlow": lambda key: key != low,
            "nothigh": lambda key: key != high,
            "inner": lambda key: low < key < high,
            "below": lambda key: key < new, "under": lambda key: key < new,
            "above": lambda key: key > new, "over": lambda key: key > new,
        }
        *filters, end = self.criteria
        for word in filters:
            left = list(filter(stays[word], loud))
            if left:
                loud = left
            elif word in ("under", "over"):
                return None
        return None if end == "refuse" else self.pick(end, loud)

    def pick(self, word, keys):
        return {"eldest": keys[0], "latest": keys[-1],
                "lowest": sorted(keys)[0], "highest": sorted(keys)[-1]}[word]

    def drop(self, key):
        self.order.remove(key)
        del self.mark[key]

    def last(self, key, mark):
        if key in self.order:
            self.order.remove(key)
        self.order.append(key)
        self.mark[key] = mark

    def play(self, event):
        """Does the EVENT, which can follow, and returns its DEEDS as a list."""
        word, *rest = event
        if word == "press":
            self.pedal = True
            return []
        if word == "lift":
            self.pedal = False
            gone = [key for key in self.order if self.mark[key] == "kept"]
            for key in gone:
                self.drop(key)
            return [("end", key) for key in gone] + self.back()
        return self.down(*rest) if word == "down" else self.up(*rest)

    def down(self, key):
        if key in self.mark:
            assert self.mark[key] == "kept"
            self.last(key, "sounds")
            return [("again", key)]
        victim = self.victim(key)
        if victim is None:
            free = len(self.loud()) < self.voices
            self.last(key, "sounds" if free else "waits")
            return [("begin" if free else "refuse", key)]
        if self.mark[victim] == "kept":
            self.drop(victim)
        else:
            self.mark[victim] = "waits"
        self.last(key, "sounds")
        return [("cut", victim), ("begin", key)]

    def up(self, key):
        if self.mark[key] == "sounds" and self.pedal:
            self.mark[key] = "kept"
            return [("keep", key)] + self.back()
        word = "leave" if self.mark[key] == "waits" else "end"
        self.drop(key)
        return [(word, key)] + self.back()

    def back(self):
        done = []
        while self.returning != "none" and len(self.loud()) < self.voices:
            waits = [key for key in self.order if self.mark[key] == "waits"]
            if not waits:
                break
            key = self.pick(self.returning, waits)
            self.mark[key] = "sounds"
            done.append(("back", key))
        return done


def after(machine, state, event):
    """The next STATE and the tuple of the DEEDS."""
    instrument = Instrument(machine, state)
    done = instrument.play(event)
    return instrument.state(), tuple(done)


def states_of(machine, play):
    """The list of the STATEs behind the EVENTs of a PLAY."""
    instrument = Instrument(machine)
    found = []
    for event in play:
        instrument.play(event)
        found.append(instrument.state())
    return found


def sound_in(state):
    return tuple(sorted(key for key, mark in state[1] if mark != "waits"))


def down_in(state):
    return {key for key, mark in state[1] if mark != "kept"}


def events_in(state, keys, pedal):
    """The EVENTs of the BOARD that can follow, those of the highest KEYs first."""
    down = down_in(state)
    found = [("up" if key in down else "down", key) for key in reversed(range(keys))]
    return found + ([("lift",) if state[0] else ("press",)] if pedal else [])


def is_board_play(play, keys, pedal):
    """Whether a tuple is a PLAY of the BOARD."""
    state = START
    for event in play:
        if event not in events_in(state, keys, pedal):
            return False
        # With so many VOICES only the KEYs and the pedal count.
        state, _ = after((88, ("refuse",), "none"), state, event)
    return True


def all_states(machine, keys):
    """All STATEs of a MACHINE, by the form that [4] tells, with KEYs below a number."""
    voices, _, returning = machine
    for many in range(keys + 1):
        for row in permutations(range(keys), many):
            for marks in product(("sounds", "kept", "waits"), repeat=many):
                loud = many - marks.count("waits")
                if loud > voices or (returning != "none" and loud < min(voices, many)):
                    continue
                for pedal in (False, True) if "kept" not in marks else (True,):
                    yield pedal, tuple(zip(row, marks))


def distances(machines, keys, pedal):
    """The tuples of STATEs of some MACHINEs to which PLAYs of a BOARD lead, and how far they are."""
    start = tuple(START for _ in machines)
    far = {start: 0}
    queue = deque([start])
    while queue:
        states = queue.popleft()
        for event in events_in(states[0], keys, pedal):
            new = tuple(after(machine, state, event)[0] for machine, state in zip(machines, states))
            if new not in far:
                far[new] = far[states] + 1
                queue.append(new)
    return far


def nearest(far, wanted):
    """How far the nearest tuple of STATEs is of those that are wanted, or None."""
    return min((many for states, many in far.items() if wanted(*states)), default=None)


def sounds_differ(one, other):
    return sound_in(one) != sound_in(other)


def key_lacks(one, other):
    """Whether some KEY of the other SOUND is not in that of the one STATE."""
    return not set(sound_in(other)) <= set(sound_in(one))


def all_plays(keys, pedal, length):
    """All PLAYs of a BOARD with at most so many EVENTs."""
    level = [((), frozenset(), False)]
    for _ in range(length + 1):
        yield from (play for play, _, _ in level)
        level = [follow for one in level for follow in longer(one, keys, pedal)]


def longer(one, keys, pedal):
    play, down, pressed = one
    for key in range(keys):
        yield (*play, ("up" if key in down else "down", key)), down ^ {key}, pressed
    if pedal:
        yield (*play, ("lift",) if pressed else ("press",)), down, not pressed


def mirror_machine(machine):
    pairs = (("lowest", "highest"), ("notlow", "nothigh"), ("below", "above"), ("under", "over"))
    other = {a: b for pair in pairs for a, b in (pair, pair[::-1])}
    voices, criteria, returning = machine
    return voices, tuple(other.get(word, word) for word in criteria), other.get(returning, returning)


def mirror_play(play, many):
    return tuple((event[0], many - 1 - event[1]) if len(event) == 2 else event for event in play)
