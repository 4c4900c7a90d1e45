"""KEYs and MACHINEs: what they are, and MACHINEs made of others."""

from stolenvoices.errors import BadMachine

FILTERS = ("kept", "inner", "notlow", "nothigh", "below", "above", "under", "over")
ENDS = ("eldest", "latest", "lowest", "highest", "refuse")
RETURNS = ("none", "eldest", "latest", "lowest", "highest")
MOST_VOICES = 8
MOST_CRITERIA = 6
MOST_KEY = 87
MIRROR = {
    "lowest": "highest", "highest": "lowest",
    "notlow": "nothigh", "nothigh": "notlow",
    "below": "above", "above": "below",
    "under": "over", "over": "under",
}


def is_whole(thing, least, most):
    """Whether the thing, of any kind, is an integer from least to most."""
    # For Python True and False are integers, too.
    if isinstance(thing, bool) or not isinstance(thing, int):
        return False
    return least <= thing <= most


def is_word(thing, words):
    """Whether the thing, of any kind, is one of the words."""
    # Other kinds are not compared: they may be equal to anything.
    return isinstance(thing, str) and thing in words


def is_key(thing):
    """Whether the thing, of any kind, is a KEY."""
    return is_whole(thing, 0, MOST_KEY)


def can_stand(criteria, number):
    """Whether the item with the number can stand there, if those before it can."""
    word = criteria[number]
    if number == len(criteria) - 1:
        return is_word(word, ENDS)
    return is_word(word, FILTERS) and word not in criteria[:number]


def criteria_fault(criteria):
    """The place of the first fault of CRITERIA, or None."""
    if not isinstance(criteria, tuple) or not 1 <= len(criteria) <= MOST_CRITERIA:
        return ("criteria",)
    for number in range(len(criteria)):
        if not can_stand(criteria, number):
            return ("criteria", number)
    return None


def machine_fault(thing):
    """The place of the first fault of what should be a MACHINE, or None."""
    if not isinstance(thing, tuple) or len(thing) != 3:
        return ()
    voices, criteria, returning = thing
    if not is_whole(voices, 1, MOST_VOICES):
        return ("voices",)
    place = criteria_fault(criteria)
    if place is None and not is_word(returning, RETURNS):
        return ("return",)
    return place


def need_machine(thing):
    """The thing itself, if it is a MACHINE; otherwise BadMachine."""
    place = machine_fault(thing)
    if place is not None:
        raise BadMachine(place)
    return thing


def is_machine(thing):
    """Whether the thing, of any kind, is a MACHINE."""
    return machine_fault(thing) is None


def with_voices(machine, voices):
    """The MACHINE with another number of VOICES."""
    _, criteria, returning = need_machine(machine)
    return need_machine((voices, criteria, returning))


def mirrored(machine):
    """The MIRRORED MACHINE."""
    voices, criteria, returning = need_machine(machine)
    words = [MIRROR.get(word, word) for word in criteria]
    return (voices, tuple(words), MIRROR.get(returning, returning))
