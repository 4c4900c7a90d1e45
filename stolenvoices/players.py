"""Players: MACHINEs that are being played, and trials behind which all is as before."""

from stolenvoices.errors import BadEvent, BadKey
from stolenvoices.events import can_follow
from stolenvoices.machines import is_key, need_machine
from stolenvoices.plays import need_play, states_behind
from stolenvoices.states import START, down_keys, loud_keys, sound_of
from stolenvoices.steps import perform


def need_key(thing):
    """The thing itself, if it is a KEY; otherwise BadKey."""
    if not is_key(thing):
        raise BadKey(thing)
    return thing


class Trial:
    """What a with statement is over: behind its block the Player is as it was before it."""

    def __init__(self, player):
        self.player = player
        self.past = []

    def __enter__(self):
        self.past = list(self.player.past)
        return self.player

    def __exit__(self, kind, value, trace):
        self.player.past = self.past


class Player:
    """A MACHINE that is being played."""

    def __init__(self, machine, play=()):
        self._machine = need_machine(machine)
        # The pairs of each EVENT done so far and the STATE behind it.
        self.past = list(zip(need_play(play), states_behind(machine, play)))

    @property
    def machine(self):
        """The MACHINE."""
        return self._machine

    @property
    def state(self):
        """The STATE behind all EVENTs done so far."""
        return self.past[-1][1] if self.past else START

    @property
    def sound(self):
        """The SOUND of the STATE."""
        return sound_of(self.state)

    @property
    def pedal(self):
        """Whether the pedal is down."""
        return self.state[0]

    def __call__(self, event):
        """Does the EVENT, and returns the DEEDS."""
        if not can_follow(self.state, event):
            raise BadEvent(event)
        return self._do(event)

    def _do(self, event):
        """Does an EVENT that is known to follow, and returns the DEEDS."""
        state, done = perform(self._machine, self.state, event)
        self.past.append((event, state))
        return done

    def __iadd__(self, other):
        """Does all EVENTs of a tuple, or none if one of them cannot follow."""
        state = self.state
        found = []
        for event in other:
            if not can_follow(state, event):
                raise BadEvent(event)
            state, _ = perform(self._machine, state, event)
            found.append((event, state))
        self.past.extend(found)
        return self

    def __getitem__(self, at):
        """The MARK of the KEY, or "up"."""
        return dict(self.state[1]).get(need_key(at), "up")

    def __setitem__(self, at, worth):
        """The KEY goes down for True and up for False, if it is not so already."""
        is_down = need_key(at) in down_keys(self.state[1])
        if worth and not is_down:
            self._do(("down", at))
        if is_down and not worth:
            self._do(("up", at))

    def __iter__(self):
        raise TypeError("a player has no items one after the other")

    def __contains__(self, x):
        """Whether it is a KEY of the SOUND."""
        return is_key(x) and x in loud_keys(self.state[1])

    def __len__(self):
        """How many KEYs sound."""
        return len(self.sound)

    def __eq__(self, other):
        """Whether the other is a Player with the same MACHINE and STATE."""
        return isinstance(other, Player) and self.machine == other.machine and self.state == other.state

    def events(self):
        """The tuple of the EVENTs done so far."""
        return tuple([event for event, _ in self.past])

    def undo(self):
        """Takes the last EVENT back, and returns whether there was one."""
        if not self.past:
            return False
        self.past.pop()
        return True

    def trial(self):
        """What a with statement is over: behind its block all is as it was before it."""
        return Trial(self)


def under(manager, deed):
    """What the deed returns, called in a with statement over the manager."""
    with manager as one:
        return deed(one)
