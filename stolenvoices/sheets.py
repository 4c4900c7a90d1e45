"""Sheets: PLAYs that are written, and changed, for a MACHINE."""

from stolenvoices.errors import Missing
from stolenvoices.machines import is_whole, need_machine
from stolenvoices.plays import need, need_play, trace


def need_number(thing, many):
    """The thing itself, if it is one of so many numbers from 0; otherwise Missing."""
    if not is_whole(thing, 0, many - 1):
        raise Missing(thing)
    return thing


class Sheet:
    """A PLAY that is written, and the MACHINE for it."""

    def __init__(self, machine, play=()):
        self._machine = need_machine(machine)
        self._play = need_play(play)
        # The pairs of the MACHINE and the PLAY ahead of each change.
        self._past = []

    @property
    def play(self):
        """The PLAY as it is now."""
        return self._play

    @property
    def machine(self):
        """The MACHINE as it is now."""
        return self._machine

    def _change(self, machine, play):
        """Another MACHINE or PLAY; BadMachine or BadPlay ahead of any change."""
        after = (need_machine(machine), need_play(play))
        self._past.append((self._machine, self._play))
        self._machine, self._play = after

    def use(self, machine):
        """Another MACHINE."""
        self._change(machine, self._play)

    def heard(self):
        """The TRACE of the PLAY by the MACHINE."""
        return trace(self._machine, self._play)

    def need(self):
        """The NEED of the PLAY."""
        return need(self._play)

    def __len__(self):
        """How many EVENTs the PLAY has."""
        return len(self._play)

    def __iter__(self):
        raise TypeError("the play of a sheet is what has items one after the other")

    def __getitem__(self, at):
        """The EVENT with the number."""
        return self._play[need_number(at, len(self._play))]

    def __setitem__(self, at, worth):
        """Another EVENT in the place of the one with the number."""
        need_number(at, len(self._play))
        self._change(self._machine, (*self._play[:at], worth, *self._play[at + 1:]))

    def put(self, n, event):
        """An EVENT ahead of the one with the number, or behind all."""
        need_number(n, len(self._play) + 1)
        self._change(self._machine, (*self._play[:n], event, *self._play[n:]))

    def take(self, n):
        """The EVENT with the number, which leaves."""
        event = self._play[need_number(n, len(self._play))]
        self._change(self._machine, (*self._play[:n], *self._play[n + 1:]))
        return event

    def undo(self):
        """Takes the last change back, and returns whether there was one."""
        if not self._past:
            return False
        self._machine, self._play = self._past.pop()
        return True
