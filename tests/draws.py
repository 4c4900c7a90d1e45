"""MACHINEs, STATEs and PLAYs that are drawn, the same ones in each run of the tests."""

from tests.model import ENDS, FILTERS, RETURNS


def draw_machine(chance, voices=None, filters=None):
    """A MACHINE, with as many VOICES and FILTERs as told, if they are told."""
    voices = chance.randint(1, 8) if voices is None else voices
    filters = chance.randint(0, 5) if filters is None else filters
    criteria = (*chance.sample(FILTERS, filters), chance.choice(ENDS))
    return voices, criteria, chance.choice(RETURNS)


def draw_state(chance, machine, keys=range(88)):
    """A STATE by the form that [4] tells, often one to which no PLAY leads."""
    voices, _, returning = machine
    many = chance.randint(0, min(len(keys), 12))
    pedal = chance.random() < 0.5
    loud = min(voices, many)
    if returning == "none" and chance.random() < 0.4:
        loud = chance.randint(0, loud)
    marks = [chance.choice(("sounds", "kept")) if pedal else "sounds" for _ in range(loud)]
    marks += ["waits"] * (many - loud)
    chance.shuffle(marks)
    return pedal, tuple(zip(chance.sample(keys, many), marks))


def draw_event(chance, down, pressed, keys, pedal):
    """An EVENT that can follow while these KEYs and perhaps the pedal are down."""
    if pedal and chance.random() < 0.2:
        return ("lift",) if pressed else ("press",)
    up = [key for key in keys if key not in down]
    if up and (not down or chance.random() < 0.55):
        return "down", chance.choice(up)
    return "up", chance.choice(sorted(down))


def draw_play(chance, many, keys=range(88), pedal=True):
    """A PLAY of so many EVENTs."""
    down, pressed, play = set(), False, []
    for _ in range(many):
        event = draw_event(chance, down, pressed, keys, pedal)
        if len(event) == 2:
            down ^= {event[1]}
        else:
            pressed = not pressed
        play.append(event)
    return tuple(play)
