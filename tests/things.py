"""Things of all kinds, for arguments that may be "of anything"."""


class EqualToAll:
    """Says that it is equal to whatever it is compared with."""

    def __eq__(self, other):
        return True

    def __hash__(self):
        return 0


class NeverCompared:
    """Fails if it is compared, counted, hashed, shown or tested."""

    __hash__ = None

    def fail(self, *told):
        raise AssertionError("this thing was touched")

    __eq__ = __lt__ = __le__ = __gt__ = __ge__ = fail
    __len__ = __bool__ = __iter__ = __getitem__ = __contains__ = fail
    __str__ = __repr__ = fail


def endless_list():
    """A list that contains itself."""
    found = []
    found.append(found)
    return found


# None of these is an integer, a string or a tuple.
OTHER_KINDS = [
    None, True, False, b"", b"kept", [], [0], [1, 2], [1, 2, 3], {}, {0: 1}, set(), {0},
    frozenset(), range(3), 1j, object(), int, len, lambda: 0, Ellipsis, NotImplemented,
    ValueError("x"), EqualToAll(), NeverCompared(), endless_list(), bytearray(b"eldest"), iter(()),
]
NO_TUPLES = OTHER_KINDS + [0, 1, -1, 10 ** 999, "", "abc", "eldest"]
NO_WORDS = OTHER_KINDS + [0, 1, -1, 10 ** 999, (), ("eldest",)]
NO_INTEGERS = OTHER_KINDS + ["", "0", "1", (), (1,)]


def tell(thing):
    """A text for the thing, which may not be shown itself."""
    return thing.__class__.__name__


def exchanged(thing, others):
    """Each tuple that comes of one if it, or what stands in it at any depth, is another thing."""
    yield from others
    if isinstance(thing, tuple):
        for number, item in enumerate(thing):
            for new in exchanged(item, others):
                yield (*thing[:number], new, *thing[number + 1:])
