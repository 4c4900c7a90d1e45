"""MACHINEs, PLAYs and SOUNDs as texts, and texts that are read."""

from stolenvoices.errors import BadText
from stolenvoices.machines import ENDS, FILTERS, RETURNS, need_machine
from stolenvoices.plays import need_play

LETTERS = {"down": "d", "up": "u", "press": "p", "lift": "l"}
KEY_LETTERS = {"d": "down", "u": "up"}
PEDAL_LETTERS = {"p": "press", "l": "lift"}


def machine_text(machine):
    """The text of a MACHINE."""
    voices, criteria, returning = need_machine(machine)
    return " ".join([str(voices), *criteria, ":", returning])


def event_text(event):
    """The word of an EVENT."""
    letter = LETTERS[event[0]]
    return letter if len(event) == 1 else f"{letter}{event[1]}"


def events_text(events):
    """The text of EVENTs, of which there may be more than a PLAY has."""
    return " ".join([event_text(event) for event in events])


def play_text(play):
    """The text of a PLAY."""
    return events_text(need_play(play))


def sound_text(keys):
    """The text of a SOUND."""
    return ",".join([str(key) for key in keys]) or "-"


def words_in(text):
    """The list of the words of a text; BadText of what is no string."""
    if not isinstance(text, str):
        raise BadText(())
    return text.split(" ") if text else []


def whole_in(word):
    """The integer of 1 or 2 digits that a word tells, or None."""
    if not 1 <= len(word) <= 2 or not all([letter in "0123456789" for letter in word]):
        return None
    if len(word) == 2 and word[0] == "0":
        return None
    return int(word)


def event_in(word):
    """The EVENT that a word tells, perhaps with a KEY above 87, or None."""
    if word in PEDAL_LETTERS:
        return (PEDAL_LETTERS[word],)
    key = whole_in(word[1:])
    if word[:1] not in KEY_LETTERS or key is None:
        return None
    return (KEY_LETTERS[word[0]], key)


def machine_words_fault(words):
    """The number of the first word that cannot stand there, or is lacking, in the text of a MACHINE, or None."""
    if not words or whole_in(words[0]) is None:
        return 0
    number = 1
    while number < len(words) and words[number] in FILTERS + ENDS:
        number += 1
    if number == 1:
        return number
    for wanted in ((":",), RETURNS):
        if number == len(words) or words[number] not in wanted:
            return number
        number += 1
    return None if number == len(words) else number


def machine_in(words):
    """The MACHINE that words tell; BadText, then BadMachine."""
    fault = machine_words_fault(words)
    if fault is not None:
        raise BadText((fault,))
    return need_machine((whole_in(words[0]), tuple(words[1:-2]), words[-1]))


def read_machine(text):
    """The MACHINE that a text tells."""
    return machine_in(words_in(text))


def read_play(text):
    """The PLAY that a text tells."""
    found = []
    for number, word in enumerate(words_in(text)):
        event = event_in(word)
        if event is None:
            raise BadText((number,))
        found.append(event)
    return need_play(tuple(found))
