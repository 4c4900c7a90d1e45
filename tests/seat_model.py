"""The words of DOC.md about voices by NUMBERs once more, and plain searches, for the tests alone."""

from tests import model

WAYS = ("least", "round", "longest", "own")


class Voices:
    """The voices of a MACHINE, and by which WAY KEYs get them."""

    def __init__(self, many, way):
        self.many, self.way = many, way
        self.holder = dict.fromkeys(range(1, many + 1))
        self.got_last = None
        self.had = {}
        self.freed = {}
        self.time = 0

    def copy(self):
        new = Voices(self.many, self.way)
        new.holder, new.had, new.freed = dict(self.holder), dict(self.had), dict(self.freed)
        new.got_last, new.time = self.got_last, self.time
        return new

    def choose(self, key):
        free = [number for number, holder in self.holder.items() if holder is None]
        if self.way == "round" and self.got_last is not None:
            round_about = [*range(self.got_last + 1, self.many + 1), *range(1, self.got_last + 1)]
            return next(number for number in round_about if number in free)
        if self.way == "longest":
            # Nobody has had those that never became free.
            return min(free, key=lambda number: (self.freed.get(number, 0), number))
        if self.way == "own" and self.had.get(key) in free:
            return self.had[key]
        return min(free)

    def hear(self, deeds):
        for word, key in deeds:
            if word in ("begin", "back"):
                number = self.choose(key)
                self.holder[number] = key
                self.got_last = self.had[key] = number
            elif word in ("end", "cut"):
                number, = [number for number, holder in self.holder.items() if holder == key]
                self.holder[number] = None
                self.time += 1
                self.freed[number] = self.time

    def seating(self):
        return tuple(self.holder.values())

    def told(self):
        """All of it that makes a difference later."""
        order = tuple(sorted(self.freed, key=self.freed.get))
        later = {"least": None, "round": self.got_last, "longest": order, "own": tuple(sorted(self.had.items()))}
        return self.seating(), later[self.way]


def seatings_of(machine, way, play):
    """The tuple of the SEATINGs behind the EVENTs of a PLAY."""
    instrument, voices, found = model.Instrument(machine), Voices(machine[0], way), []
    for event in play:
        voices.hear(instrument.play(event))
        found.append(voices.seating())
    return tuple(found)


def levels(machine, ways, keys, pedal):
    """The lists of the (STATE, voices by each WAY) that PLAYs of 0, 1, 2 .. EVENTs lead to, each once."""
    level, seen = [(model.START, [Voices(machine[0], way) for way in ways])], set()
    while level:
        yield level
        found = []
        for state, voices in level:
            for event in model.events_in(state, keys, pedal):
                after, deeds = model.after(machine, state, event)
                new = [one.copy() for one in voices]
                for one in new:
                    one.hear(deeds)
                mark = (after, *[one.told() for one in new])
                if mark not in seen:
                    seen.add(mark)
                    found.append((after, new))
        level = found


def fewest_apart(machine, ways, keys, pedal):
    """The fewest EVENTs behind which the SEATINGs by two WAYs differ, or None."""
    for many, level in enumerate(levels(machine, ways, keys, pedal)):
        if any(one.seating() != other.seating() for _, (one, other) in level):
            return many
    return None


def numbers_of(machine, way, keys, pedal):
    """For each KEY the ascending tuple of the NUMBERs that it has behind some PLAY."""
    found = {key: set() for key in range(keys)}
    for level in levels(machine, [way], keys, pedal):
        for _, (voices,) in level:
            for number, key in enumerate(voices.seating(), 1):
                if key is not None:
                    found[key].add(number)
    return [tuple(sorted(found[key])) for key in range(keys)]
