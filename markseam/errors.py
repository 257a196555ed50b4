"""The refusals: each keeps the thing that tells what was wrong.

The messages are fixed texts: a field may be an object of any kind, one that
cannot be shown as well.
"""


class SeamError(ValueError):
    """Every refusal of the package stands under this one."""


class NoWord(SeamError):
    """What is handed in is no word; at is the first wrong place, -1 of what is no text."""

    def __init__(self, at):
        super().__init__("no word: at tells the first wrong place, -1 of what is no text")
        self.at = at


class NoRule(SeamError):
    """A thing that is asked for is another one; what is the word for it."""

    def __init__(self, what):
        super().__init__("not as it is asked for: what tells which thing")
        self.what = what


class NoCase(SeamError):
    """A case can't be made of this; what is the word for the wrong dict."""

    def __init__(self, what):
        super().__init__("no case: what tells the wrong dict")
        self.what = what


class NoRoom(SeamError):
    """A machine has no such room; number is what was handed in for it."""

    def __init__(self, number):
        super().__init__("no room: number tells what was handed in for one")
        self.number = number


class NoPlace(SeamError):
    """There is no such place; at is the thing that is none, or where it stands."""

    def __init__(self, at):
        super().__init__("no place: at tells the thing that is none, or where it stands")
        self.at = at


class NoPaper(SeamError):
    """A paper doesn't show what it should; at is the first thing that doesn't hold."""

    def __init__(self, at):
        super().__init__("no paper: at tells the first thing that does not hold")
        self.at = at


class TooMuch(SeamError):
    """There is more than a bound allows; many is what the point in question tells."""

    def __init__(self, many):
        super().__init__("too much: many tells the bound, or how many there would be")
        self.many = many


class NoText(SeamError):
    """Nothing has this text; at is the first sign that can't stand, -1 of what is no text."""

    def __init__(self, at):
        super().__init__("no text: at tells the first sign that can not stand there")
        self.at = at


class NoRow(SeamError):
    """A desk can't be told this row; many is how many words it has, -1 of what is no text."""

    def __init__(self, many):
        super().__init__("no row: many tells how many words it has, -1 of what is no text")
        self.many = many


class NoName(SeamError):
    """Nothing stands, or can stand, by this name; name is the thing."""

    def __init__(self, name):
        super().__init__("no name: name tells the thing")
        self.name = name
