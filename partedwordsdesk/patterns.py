"""The calls on one object that holds a list or none, and their answers."""

from partedwordsdesk.changes import is_too_long, touched, with_item
from partedwordsdesk.listing import one_form
from partedwordsdesk.parting import fitting_patterns, greatest_level, held_against, odd_gaps, tried_margins
from partedwordsdesk.reading import read_item, read_list
from partedwordsdesk.tokens import Fault

LOAD = 0
SHOWN = 1
REPORT = 2
MARGINS = 3

# a call's number alone doesn't tell where the next call begins: what stands behind it does, from call 0 on
GIVEN = (("row",), (), ("number",), (), ("row",))

NO_LIST = -1
NO_SUCH = -2
NOT_RIGHT = -4
TOO_MANY = -5


class Desk:
    """The object that the calls are made on: it holds a list, or None."""

    def __init__(self):
        self.held = None


def load(desk, text):
    """The answer of load; a list that is right is held from now on."""
    try:
        listing = read_list(text)
    except Fault as fault:
        return [0, fault.code, fault.place]
    desk.held = listing
    return [1, len(listing.words), len(listing.patterns)]


def shown(listing):
    """The answer of shown."""
    form = one_form(listing)
    return [len(form)] + form


def report(listing, number):
    """The answer of report."""
    if number < 0 or number >= len(listing.words):
        return [NO_SUCH]
    word = listing.words[number]
    odd = odd_gaps(listing.patterns, word.letters)
    counts = held_against(word, odd, listing.left, listing.right)
    exact = 1 if counts[1] == 0 and counts[2] == 0 else 0
    level = greatest_level(listing.patterns, word.letters)
    fitting = fitting_patterns(listing.patterns, word.letters)
    return [exact] + list(counts) + [level, len(fitting)] + fitting


def put(desk, text):
    """The answer of put; the list with the item is held from now on, if that is allowed."""
    try:
        item = read_item(text)
    except Fault:
        return [NOT_RIGHT]
    changed = with_item(desk.held, item)
    if is_too_long(changed):
        return [TOO_MANY]
    numbers = touched(desk.held, changed)
    desk.held = changed
    return [len(changed.words), len(changed.patterns), len(numbers)] + numbers


def answer(desk, call):
    """The answer of one call, told as its number and behind it what is given to it."""
    if call[0] == LOAD:
        return load(desk, call[1])
    if desk.held is None:
        return [NO_LIST]
    if call[0] == SHOWN:
        return shown(desk.held)
    if call[0] == REPORT:
        return report(desk.held, call[1])
    if call[0] == MARGINS:
        return tried_margins(desk.held)
    return put(desk, call[1])


def split_calls(calls):
    """Each call as a list: its number, and what is given to it, each row as a list of its own."""
    found = []
    place = 0
    while place < len(calls):
        call = [calls[place]]
        place += 1
        for kind in GIVEN[call[0]]:
            if kind == "number":
                call.append(calls[place])
                place += 1
            else:
                end = place + 1 + calls[place]
                call.append(calls[place + 1:end])
                place = end
        found.append(call)
    return found


def answers(calls):
    """The answers of all calls on one new object, each with how many numbers it has ahead of it."""
    desk = Desk()
    told = []
    for call in split_calls(calls):
        numbers = answer(desk, call)
        told.append(len(numbers))
        told.extend(numbers)
    return told
