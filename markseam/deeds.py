"""The deeds of a desk: each takes what stands there and the things read, and tells the answer."""

from markseam.back import Back
from markseam.carets import stops
from markseam.case import Case
from markseam.errors import NoPlace
from markseam.judging import idle, may_change, parting, shows
from markseam.least import machine_of
from markseam.order import ordered, unlike_at
from markseam.page import Page
from markseam.passes import Pass
from markseam.seams import seams
from markseam.shaper import Shaper
from markseam.texts import shown_shaper
from markseam.things import NOTHING
from markseam.twins import twins

DONE = "ok"


def shown_word(word):
    """Tell a word as answers have it."""
    return word if word != "" else NOTHING


def shown_list(texts):
    """Tell texts with blanks between them."""
    return shown_word(" ".join(texts))


def shown_numbers(numbers):
    """Tell numbers with blanks between them."""
    return shown_list([str(number) for number in numbers])


def shown_found(word, name, none):
    """Tell a word that was found behind its name, or what stands for none."""
    return none if word is None else f"{name} {shown_word(word)}"


def new_set(stock, new):
    """Let a Shaper without passes stand by a name."""
    stock.shapers[new] = Shaper()
    return DONE


def add_pass(stock, name):
    """Give a shaper one pass more."""
    stock.shapers[name] = Shaper(stock.shapers[name].passes() + [Pass()])
    return DONE


def add_rule(stock, name, rule):
    """Give the last pass of a shaper one rule more."""
    passes = stock.shapers[name].passes()
    if len(passes) == 0:
        raise NoPlace(0)
    last = Pass(passes[-1].rules() + [rule])
    stock.shapers[name] = Shaper(passes[:-1] + [last])
    return DONE


def copy_set(stock, new, name):
    """Let a shaper stand by another name, too."""
    stock.shapers[new] = stock.shapers[name]
    return DONE


def join_sets(stock, new, one, other):
    """Let a shaper and another one behind it stand by a name."""
    stock.shapers[new] = stock.shapers[one].then(stock.shapers[other])
    return DONE


def leave_out(stock, new, name, at, number):
    """Let a shaper without one rule stand by a name."""
    stock.shapers[new] = stock.shapers[name].without(at, number)
    return DONE


def exchange(stock, new, name, at):
    """Let a shaper with two passes exchanged stand by a name."""
    stock.shapers[new] = stock.shapers[name].exchanged(at)
    return DONE


def drop_set(stock, name):
    """Let no shaper stand by a name."""
    del stock.shapers[name]
    return DONE


def tell_sets(stock):
    """Tell the names of the shapers."""
    return shown_list(sorted(stock.shapers))


def show_set(stock, name):
    """Tell a shaper's text."""
    return shown_shaper(stock.shapers[name])


def tell_row(stock, name, word):
    """Tell a word's row."""
    return shown_word(stock.shapers[name].row(word))


def tell_glyphs(stock, name, word):
    """Tell the signs of a word's row, and where they lead."""
    told = []
    for sign, places in stock.shapers[name].glyphs(word):
        numbers = ",".join([str(place) for place in places])
        told.append(f"{sign}{numbers}")
    return shown_list(told)


def give_rank(stock, sign, rank):
    """Let a sign be a mark from now on."""
    ranks = {**stock.ranks, sign: rank}
    # It is the Case that refuses a rank that is none.
    Case(ranks)
    stock.ranks = ranks
    return DONE


def make_base(stock, sign):
    """Let a sign be no mark from now on."""
    stock.ranks = {mark: rank for mark, rank in stock.ranks.items() if mark != sign}
    return DONE


def tell_order(stock, word):
    """Tell a word with its marks in order."""
    text, _ = ordered(stock.case_now(), word)
    return shown_word(text)


def tell_same(stock, one, other):
    """Tell whether two words are the same up to their marks."""
    # The exchanges that same_marks tells as well would be millions for words as long as a desk takes them.
    at = unlike_at(stock.case_now(), one, other)
    return "same" if at is None else f"unlike {at}"


def tell_shape(stock, name, word):
    """Tell the row of a word, its marks put in order first."""
    return shown_word(stock.script_of(name).row(word))


def tell_stops(stock, name, word):
    """Tell where a caret may stand."""
    return shown_list([f"{place}:{x}" for place, x in stops(stock.script_of(name), word)])


def count_rooms(stock, name, letters):
    """Tell how many rooms the least machine has."""
    return str(len(machine_of(stock.shapers[name], letters)))


def tell_alike(stock, one, other, letters):
    """Tell whether two shapers have the same rows."""
    machine = machine_of(stock.shapers[one], letters)
    return shown_found(parting(machine, machine_of(stock.shapers[other], letters)), "unlike", "alike")


def tell_shows(stock, name, at, number, letters):
    """Tell what shows that a rule is not idle."""
    return shown_found(shows(stock.shapers[name], at, number, letters), "shows", "idle")


def tell_idle(stock, name, letters):
    """Tell the idle rules."""
    return shown_list([f"{at}.{number}" for at, number in idle(stock.shapers[name], letters)])


def tell_change(stock, name, at, letters):
    """Tell whether two passes may change places."""
    return shown_found(may_change(stock.shapers[name], at, letters), "unlike", "alike")


def tell_seams(stock, name, letters, word):
    """Tell the seams of a word."""
    return shown_numbers(seams(machine_of(stock.shapers[name], letters), word))


def back_of(stock, name, letters, row):
    """Tell what leads a row back."""
    return Back(machine_of(stock.shapers[name], letters), row)


def tell_first(stock, name, letters, row):
    """Tell the first word that has a row."""
    return shown_found(back_of(stock, name, letters, row).first(), "first", "none")


def tell_many(stock, name, letters, row):
    """Tell how many words have a row."""
    many = back_of(stock, name, letters, row).how_many()
    if many is None:
        return "endless"
    # Asked by its size and not by its figures: Python bars numbers of thousands of them from being shown.
    return str(many) if many < 10 ** 60 else "more"


def tell_words(stock, name, letters, row, number):
    """Tell the first words that have a row."""
    found = back_of(stock, name, letters, row).words(number)
    return " ".join(["words"] + [shown_word(word) for word in found])


def tell_twins(stock, name, letters):
    """Tell two words that have one row."""
    told = twins(machine_of(stock.shapers[name], letters))
    if told[0] == "none":
        return "none"
    return " ".join(["twins"] + [shown_word(word) for word in told[1:]])


def new_page(stock, new, name, letters):
    """Let a Page without text stand by a name."""
    stock.pages[new] = Page(stock.script_of(name), letters)
    return DONE


def put_in(stock, name, at, word):
    """Put the letters of a word in on a page."""
    return shown_numbers(stock.pages[name].put(at, word))


def cut_out(stock, name, at, many):
    """Take letters of a page out."""
    return shown_numbers(stock.pages[name].cut(at, many))


def undo_deed(stock, name):
    """Take the last deed on a page back."""
    return shown_numbers(stock.pages[name].undo())


def join_pages(stock, name, near):
    """Take the text of a page in at the end of another one."""
    return shown_numbers(stock.pages[name].took_in(stock.pages[near]))


def part_page(stock, new, name, at):
    """Break a page, and let the new one stand by a name."""
    page, begin, end = stock.pages[name].parted_at(at)
    stock.pages[new] = page
    return shown_numbers([begin, end])


def twin_page(stock, new, name):
    """Let the twin of a page stand by a name."""
    stock.pages[new] = stock.pages[name].twin()
    return DONE


def close_page(stock, name):
    """Let no page stand by a name."""
    del stock.pages[name]
    return DONE


def tell_pages(stock):
    """Tell the names of the pages."""
    return shown_list(sorted(stock.pages))


def tell_page(stock, name):
    """Tell a page's text and row."""
    page = stock.pages[name]
    return f"{shown_word(page.text())} {shown_word(page.row())}"


def tell_places(stock, name):
    """Tell a page's places."""
    return shown_numbers(stock.pages[name].places())


DEEDS = {
    "new": new_set, "pass": add_pass, "rule": add_rule, "copy": copy_set, "then": join_sets, "without": leave_out,
    "exchange": exchange, "drop": drop_set, "sets": tell_sets, "show": show_set,
    "row": tell_row, "glyphs": tell_glyphs, "rank": give_rank, "base": make_base, "order": tell_order,
    "same": tell_same, "shape": tell_shape, "stops": tell_stops,
    "rooms": count_rooms, "alike": tell_alike, "shows": tell_shows, "idle": tell_idle, "change": tell_change,
    "seams": tell_seams,
    "first": tell_first, "many": tell_many, "words": tell_words, "twins": tell_twins,
    "page": new_page, "put": put_in, "cut": cut_out, "undo": undo_deed, "join": join_pages, "part": part_page,
    "twin": twin_page, "close": close_page, "pages": tell_pages, "tell": tell_page, "places": tell_places,
}


def done(stock, deed, things):
    """Do a deed, and tell the answer."""
    action = DEEDS[deed]
    return action(stock, *things)
