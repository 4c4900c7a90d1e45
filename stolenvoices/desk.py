"""A desk: a Player that is told what to do by lines, and answers by texts."""

from stolenvoices.deciding import gap, grows, parting
from stolenvoices.errors import BadEvent, BadMachine, BadText
from stolenvoices.events import is_event
from stolenvoices.machines import MOST_VOICES, is_key
from stolenvoices.players import Player
from stolenvoices.texts import event_in, events_text, machine_in, play_text, read_machine, sound_text, whole_in

BAD_LINE = "bad line"
BOARD_WORDS = ("1", "2", "3", "4")


def need_words(words, many):
    """BadText if there are not so many words behind the first one of a line."""
    if len(words) != many:
        raise BadText((min(len(words), many) + 1,))


def key_of(words):
    """The KEY that is the only word behind the first one."""
    need_words(words, 1)
    key = whole_in(words[0])
    if not is_key(key):
        raise BadText((1,))
    return key


def keys_of(words):
    """The number of KEYs of a BOARD that the word behind the first one tells."""
    if not words or words[0] not in BOARD_WORDS:
        raise BadText((1,))
    return int(words[0])


def say_play(desk, words):
    """Does the EVENTs, or none of them."""
    events = [event_in(word) for word in words]
    if not all([is_event(event) for event in events]):
        return BAD_LINE
    player = desk.player
    try:
        player += tuple(events)
    except BadEvent:
        return "no"
    return sound_text(player.sound)


def say_sound(desk, words):
    """The text of the SOUND."""
    need_words(words, 0)
    return sound_text(desk.player.sound)


def say_mark(desk, words):
    """The MARK of a KEY."""
    key = key_of(words)
    return desk.player[key]


def say_events(desk, words):
    """The text of all EVENTs so far."""
    need_words(words, 0)
    return events_text(desk.player.events()) or "none"


def say_machine(desk, words):
    """Plays all EVENTs so far by another MACHINE."""
    player = Player(machine_in(words))
    player += desk.player.events()
    desk.player = player
    return sound_text(player.sound)


def say_undo(desk, words):
    """Takes the last EVENT back."""
    need_words(words, 0)
    return "done" if desk.player.undo() else "nothing"


def yes_or_play(play):
    """The answer if this PLAY, or None, was found against it."""
    return "yes" if play is None else f"no {play_text(play)}"


def say_alike(desk, words):
    """Whether the MACHINE is ALIKE to another one, and a PARTING."""
    keys = keys_of(words)
    return yes_or_play(parting(desk.player.machine, machine_in(words[1:]), keys))


def say_covers(desk, words):
    """Whether the MACHINE COVERS another one, and a GAP."""
    keys = keys_of(words)
    return yes_or_play(gap(desk.player.machine, machine_in(words[1:]), keys))


def say_grows(desk, words):
    """Whether the MACHINE GROWS."""
    need_words(words, 1)
    keys = keys_of(words)
    machine = desk.player.machine
    if machine[0] == MOST_VOICES:
        return "full"
    return "yes" if grows(machine, keys) else "no"


ANSWERS = {
    "play": say_play, "sound": say_sound, "mark": say_mark, "events": say_events, "machine": say_machine,
    "undo": say_undo, "alike": say_alike, "covers": say_covers, "grows": say_grows,
}


class Desk:
    """A desk with a Player of the MACHINE that a text tells."""

    def __init__(self, text):
        self.player = Player(read_machine(text))

    def say(self, line):
        """The answer to a line."""
        words = line.split(" ") if isinstance(line, str) else [""]
        if words[0] not in ANSWERS:
            return BAD_LINE
        answer = ANSWERS[words[0]]
        try:
            return answer(self, words[1:])
        except (BadText, BadMachine):
            return BAD_LINE
