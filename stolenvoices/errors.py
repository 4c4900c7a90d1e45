"""The errors of the package.

The messages are fixed texts: what an error keeps may be of any kind, also
one that cannot be shown.
"""


class VoiceError(ValueError):
    """Any argument that is refused."""


class BadMachine(VoiceError):
    """What is no MACHINE, with the place of its fault."""

    def __init__(self, place):
        super().__init__("no machine")
        self.place = place


class BadPlay(VoiceError):
    """What is no PLAY, with the place of its fault."""

    def __init__(self, place):
        super().__init__("no play")
        self.place = place


class BadState(VoiceError):
    """What is no STATE of a MACHINE, with the place of its fault."""

    def __init__(self, place):
        super().__init__("no state of the machine")
        self.place = place


class BadTrace(VoiceError):
    """What cannot be a TRACE of a PLAY, with the place of its fault."""

    def __init__(self, place):
        super().__init__("no trace of the play")
        self.place = place


class BadText(VoiceError):
    """A text that cannot be read, with the place of its fault."""

    def __init__(self, place):
        super().__init__("no such text")
        self.place = place


class BadEvent(VoiceError):
    """What is no EVENT, or an EVENT that cannot follow."""

    def __init__(self, event):
        super().__init__("no event that can follow")
        self.event = event


class BadKey(VoiceError):
    """What is no KEY, or a KEY that cannot stand there."""

    def __init__(self, key):
        super().__init__("no such key")
        self.key = key


class BadBoard(VoiceError):
    """What is no BOARD, with what was passed as the number of its KEYs."""

    def __init__(self, many):
        super().__init__("no board")
        self.many = many


class BadQuestion(VoiceError):
    """A question that cannot be asked; it is made with a text."""


class Missing(LookupError):
    """A number behind which nothing stands."""

    def __init__(self, number):
        super().__init__("nothing has this number")
        self.number = number
