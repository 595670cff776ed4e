"""All refusals of the program, each under one of three bases."""


class TongueError(ValueError):
    """What was handed in isn't as the document tells."""


class StandError(LookupError):
    """What was asked for stands nowhere."""


class RoomError(ArithmeticError):
    """What was handed in has no room, or not together."""


class NoTokens(TongueError):
    """These are no TOKENS."""

    def __init__(self, place):
        super().__init__("no tokens")
        self.place = place


class NoRows(TongueError):
    """These are no ROWS."""

    def __init__(self, place):
        super().__init__("no rows")
        self.place = place


class NoText(TongueError):
    """Of these lines no text is read."""

    def __init__(self, row):
        super().__init__("no text")
        self.row = row


class NoTexts(TongueError):
    """These are no TEXTS."""

    def __init__(self, place):
        super().__init__("no texts")
        self.place = place


class NoKind(TongueError):
    """This is no KIND of printing."""

    def __init__(self, kind):
        super().__init__("no kind")
        self.kind = kind


class NoSize(TongueError):
    """This is no SIZE."""

    def __init__(self, size):
        super().__init__("no size")
        self.size = size


class NoChanges(TongueError):
    """These are no CHANGES."""

    def __init__(self, place):
        super().__init__("no changes")
        self.place = place


class NoLine(TongueError):
    """This is no line that a desk answers."""

    def __init__(self, line):
        super().__init__("no line")
        self.line = line


class NoInclude(StandError):
    """There is no text of this NAME."""

    def __init__(self, name):
        super().__init__("no include")
        self.name = name


class NoStyle(StandError):
    """No row tells this STYLE."""

    def __init__(self, name):
        super().__init__("no style")
        self.name = name


class NoMark(StandError):
    """There is no mark of this NAME."""

    def __init__(self, name):
        super().__init__("no mark")
        self.name = name


class NoNumber(StandError):
    """There is no number there, or none such."""

    def __init__(self, place):
        super().__init__("no number")
        self.place = place


class NoPlace(StandError):
    """There is no such place."""

    def __init__(self, place):
        super().__init__("no place")
        self.place = place


class NoDocument(StandError):
    """This is no Document."""

    def __init__(self, place):
        super().__init__("no document")
        self.place = place


class NoPrinting(StandError):
    """This is no Printing."""

    def __init__(self, printing):
        super().__init__("no printing")
        self.printing = printing


class Ring(RoomError):
    """A text stands in itself."""

    def __init__(self, name):
        super().__init__("ring")
        self.name = name


class Twice(RoomError):
    """What may stand once stands twice."""

    def __init__(self, name):
        super().__init__("twice")
        self.name = name


class TooMany(RoomError):
    """There are more than have room."""

    def __init__(self, many):
        super().__init__("too many")
        self.many = many


class TooTall(RoomError):
    """What hangs together has no room on a page."""

    def __init__(self, row):
        super().__init__("too tall")
        self.row = row


class Clash(RoomError):
    """Two changes can't stand together."""

    def __init__(self, one, other, row):
        super().__init__("clash")
        self.one = one
        self.other = other
        self.row = row
