"""What the deeds of a desk take, and how each kind of thing is read."""

from markseam.errors import NoName, NoPlace, NoWord
from markseam.reader import FIGURES
from markseam.signs import is_sign, want_letters, want_word
from markseam.texts import read_rule

NOTHING = "-"
SMALL = "abcdefghijklmnopqrstuvwxyz"
LONGEST_NAME = 8
MOST_FIGURES = 9


def read_name(stock, thing):
    """Tell a name: small letters."""
    if not 1 <= len(thing) <= LONGEST_NAME or not all([sign in SMALL for sign in thing]):
        raise NoName(thing)
    return thing


def read_set(stock, thing):
    """Tell a name by which a shaper stands."""
    if thing not in stock.shapers:
        raise NoName(thing)
    return thing


def read_page(stock, thing):
    """Tell a name by which a page stands."""
    if thing not in stock.pages:
        raise NoName(thing)
    return thing


def read_number(stock, thing):
    """Tell a whole number from its figures."""
    if not 1 <= len(thing) <= MOST_FIGURES or not all([sign in FIGURES for sign in thing]):
        raise NoPlace(-1)
    if thing[0] == "0" and thing != "0":
        raise NoPlace(-1)
    return int(thing)


def read_word(stock, thing):
    """Tell a word; the one without signs has a sign of its own."""
    if thing == NOTHING:
        return ""
    if thing == "":
        raise NoWord(0)
    want_word(thing)
    return thing


def read_letters(stock, thing):
    """Tell letters."""
    want_letters(thing)
    return thing


def read_sign(stock, thing):
    """Tell a sign."""
    if not is_sign(thing):
        raise NoWord(0)
    return thing


def read_rule_thing(stock, thing):
    """Tell the Rule of a text."""
    return read_rule(thing)


READERS = {
    "NEW": read_name, "SET": read_set, "ONE": read_set, "OTHER": read_set, "PAGE": read_page, "NEAR": read_page,
    "AT": read_number, "NUMBER": read_number, "MANY": read_number, "WORD": read_word, "OTHERWORD": read_word,
    "ROW": read_word, "LETTERS": read_letters, "SIGN": read_sign, "RULE": read_rule_thing,
}
KINDS = {
    "new": "NEW", "pass": "SET", "rule": "SET RULE", "copy": "NEW SET", "then": "NEW ONE OTHER",
    "without": "NEW SET AT NUMBER", "exchange": "NEW SET AT", "drop": "SET", "sets": "", "show": "SET",
    "row": "SET WORD", "glyphs": "SET WORD", "rank": "SIGN NUMBER", "base": "SIGN", "order": "WORD",
    "same": "WORD OTHERWORD", "shape": "SET WORD", "stops": "SET WORD",
    "rooms": "SET LETTERS", "alike": "ONE OTHER LETTERS", "shows": "SET AT NUMBER LETTERS", "idle": "SET LETTERS",
    "change": "SET AT LETTERS", "seams": "SET LETTERS WORD",
    "first": "SET LETTERS ROW", "many": "SET LETTERS ROW", "words": "SET LETTERS ROW NUMBER",
    "twins": "SET LETTERS",
    "page": "NEW SET LETTERS", "put": "PAGE AT WORD", "cut": "PAGE AT MANY", "undo": "PAGE", "join": "PAGE NEAR",
    "part": "NEW PAGE AT", "twin": "NEW PAGE", "close": "PAGE", "pages": "", "tell": "PAGE", "places": "PAGE",
}


def takes(deed, many):
    """Tell whether there is a deed of this name that takes so many things."""
    return deed in KINDS and len(KINDS[deed].split()) == many


def read_things(stock, deed, things):
    """Tell what the things of a deed are, each read by its kind, the first one first."""
    told = []
    for kind, thing in zip(KINDS[deed].split(), things):
        read = READERS[kind]
        told.append(read(stock, thing))
    return told
