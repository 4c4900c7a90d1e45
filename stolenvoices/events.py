"""EVENTs: what they are, and which of them can follow."""

from stolenvoices.machines import is_key, is_word
from stolenvoices.states import down_keys

KEY_WORDS = ("down", "up")
PEDAL_WORDS = ("press", "lift")


def is_event(thing):
    """Whether the thing, of any kind, is an EVENT."""
    if not isinstance(thing, tuple):
        return False
    if len(thing) == 1:
        return is_word(thing[0], PEDAL_WORDS)
    return len(thing) == 2 and is_word(thing[0], KEY_WORDS) and is_key(thing[1])


def can_follow(state, thing):
    """Whether the thing, of any kind, is an EVENT that can follow in a STATE."""
    if not is_event(thing):
        return False
    pedal, row = state
    word = thing[0]
    if word == "press":
        return not pedal
    if word == "lift":
        return pedal
    return (thing[1] in down_keys(row)) == (word == "up")
