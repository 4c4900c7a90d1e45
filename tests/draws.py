"""MACHINEs, STATEs and PLAYs that are drawn, the same ones in each run of the tests."""

from tests.model import ENDS, FILTERS, RETURNS


def draw_machine(chance, voices=None, filters=None):
    """A MACHINE, with as many VOICES and FILTERs as told, if they are told."""
    voices = chance.randint(1, 8) if voices is None else voices
    filters = chance.randint(0, 5) if filters is None else filters
    criteria = (*chance.sample(FILTERS, filters), chance.choice(ENDS))
    return voices, criteria, chance.choice(RETURNS)


def draw_near(chance, machine):
    """A MACHINE that differs little from another one, or not at all."""
    voices, criteria, returning = machine
    filters = list(criteria[:-1])
    kind = chance.randrange(5)
    if kind == 0:
        return voices, criteria, chance.choice(RETURNS)
    if kind == 1:
        return voices, (*filters, chance.choice(ENDS)), returning
    if kind == 2:
        return chance.randint(max(1, voices - 1), min(8, voices + 1)), criteria, returning
    if kind == 3 and len(filters) > 1:
        filters[0], filters[-1] = filters[-1], filters[0]
    elif filters and chance.random() < 0.7:
        filters.remove(chance.choice(filters))
    elif len(filters) < 5:
        filters.append(chance.choice([word for word in FILTERS if word not in filters]))
    return voices, (*filters, criteria[-1]), returning


def draw_pairs(chance, many):
    """So many pairs of MACHINEs, with few VOICES, half of them with little difference."""
    for number in range(many):
        one = draw_machine(chance, chance.randint(1, 4), chance.randint(0, 3))
        yield one, draw_near(chance, one) if number % 2 else draw_machine(chance, chance.randint(1, 4))


def draw_state(chance, machine, keys=range(88)):
    """A STATE by the form that [4] tells, often one to which no PLAY leads."""
    voices, _, returning = machine
    many = chance.randint(0, min(len(keys), 12))
    pedal = chance.random() < 0.5
    loud = min(voices, many)
    if returning == "none" and chance.random() < 0.4:
        loud = chance.randint(0, loud)
    marks = [chance.choice(("sounds", "kept")) if pedal else "sounds" for _ in range(loud)]
    marks += ["waits"] * (many - loud)
    chance.shuffle(marks)
    return pedal, tuple(zip(chance.sample(keys, many), marks))


def draw_event(chance, down, pressed, keys, pedal):
    """An EVENT that can follow while these KEYs and perhaps the pedal are down."""
    if pedal and chance.random() < 0.2:
        return ("lift",) if pressed else ("press",)
    up = [key for key in keys if key not in down]
    if up and (not down or chance.random() < 0.55):
        return "down", chance.choice(up)
    return "up", chance.choice(sorted(down))


def draw_play(chance, many, keys=range(88), pedal=True):
    """A PLAY of so many EVENTs."""
    down, pressed, play = set(), False, []
    for _ in range(many):
        event = draw_event(chance, down, pressed, keys, pedal)
        if len(event) == 2:
            down ^= {event[1]}
        else:
            pressed = not pressed
        play.append(event)
    return tuple(play)
