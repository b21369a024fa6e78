"""The calls on one object that holds a list or none, and their answers."""

from partedwordsdesk.changes import is_too_long, touched, with_item, without_pattern, without_word
from partedwordsdesk.joining import breaking_gaps, joints, parted_as_two
from partedwordsdesk.listing import one_form
from partedwordsdesk.parting import fitting_patterns, greatest_level, held_against, odd_gaps, parted_gaps, tried_margins
from partedwordsdesk.reading import read_item, read_letters, read_list
from partedwordsdesk.slimming import needless_patterns, slimmed
from partedwordsdesk.tokens import Fault

LOAD = 0
SHOWN = 1
REPORT = 2
MARGINS = 3
PUT = 4
DROP = 5
NEEDLESS = 6
SLIM = 7
JOINT = 8

# a call's number alone doesn't tell where the next call begins: what stands behind it does, from call 0 on
GIVEN = (("row",), (), ("number",), (), ("row",), ("number", "number"), (), (), ("row",), ("number", "row"))

DROPPED_WORD = 0
DROPPED_PATTERN = 1
MOST_PLACES = 100

NO_LIST = -1
NO_SUCH = -2
NO_LINE = -3
NOT_RIGHT = -4
TOO_MANY = -5


class Desk:
    """The object that the calls are made on: it holds a list, or None."""

    def __init__(self):
        self.held = None


def counted(numbers):
    """Numbers behind how many they are."""
    return [len(numbers)] + numbers


def load(desk, text):
    """The answer of load; a list that is right is held from now on."""
    try:
        listing = read_list(text)
    except Fault as fault:
        return [0, fault.code, fault.place]
    desk.held = listing
    return [1, len(listing.words), len(listing.patterns)]


def shown(listing):
    """The answer of shown."""
    return counted(one_form(listing))


def has_number(entries, number):
    """Whether one of the words, or of the patterns, has this number."""
    return 0 <= number < len(entries)


def report(listing, number):
    """The answer of report."""
    if not has_number(listing.words, number):
        return [NO_SUCH]
    word = listing.words[number]
    odd = odd_gaps(listing.patterns, word.letters)
    counts = held_against(word, odd, listing.left, listing.right)
    exact = 1 if counts[1] == 0 and counts[2] == 0 else 0
    level = greatest_level(listing.patterns, word.letters)
    fitting = fitting_patterns(listing.patterns, word.letters)
    return [exact] + list(counts) + [level] + counted(fitting)


def become(desk, changed):
    """The answer of a change to this list, which is held from now on."""
    numbers = touched(desk.held, changed)
    desk.held = changed
    return [len(changed.words), len(changed.patterns)] + counted(numbers)


def put(desk, text):
    """The answer of put; the list with the item is held from now on, if that is allowed."""
    try:
        item = read_item(text)
    except Fault:
        return [NOT_RIGHT]
    changed = with_item(desk.held, item)
    if is_too_long(changed):
        return [TOO_MANY]
    return become(desk, changed)


def drop(desk, kind, number):
    """The answer of drop; the list without that word or pattern is held from now on, if there is one."""
    if kind != DROPPED_WORD and kind != DROPPED_PATTERN:
        return [NOT_RIGHT]
    entries = desk.held.words if kind == DROPPED_WORD else desk.held.patterns
    if not has_number(entries, number):
        return [NO_SUCH]
    if kind == DROPPED_WORD:
        return become(desk, without_word(desk.held, number))
    return become(desk, without_pattern(desk.held, number))


def slim(desk):
    """The answer of slim; the list made slim is held from now on."""
    before = len(desk.held.patterns)
    desk.held = slimmed(desk.held)
    left = len(desk.held.patterns)
    return [left, before - left]


def joint(listing, row):
    """The answer of joint."""
    letters = read_letters(row)
    if letters is None:
        return [NOT_RIGHT]
    found = joints(listing.words, letters)
    told = [len(found)]
    if len(found) > 0:
        told = told + [found[0]] + counted(parted_as_two(listing, letters, found[0]))
    return told + counted(parted_gaps(listing, letters))


def line_break(listing, places, row):
    """The answer of break."""
    letters = read_letters(row)
    if letters is None:
        return [NOT_RIGHT]
    if places < 0 or places > MOST_PLACES:
        return [NO_LINE]
    found = breaking_gaps(listing, letters, places)
    if len(found) == 0:
        return [0]
    return [1, found[-1]]


def listed_answer(desk, call):
    """The answer of one call but load while there is a list."""
    if call[0] == SHOWN:
        return shown(desk.held)
    if call[0] == REPORT:
        return report(desk.held, call[1])
    if call[0] == MARGINS:
        return tried_margins(desk.held)
    if call[0] == PUT:
        return put(desk, call[1])
    if call[0] == DROP:
        return drop(desk, call[1], call[2])
    if call[0] == NEEDLESS:
        return counted(needless_patterns(desk.held))
    if call[0] == SLIM:
        return slim(desk)
    if call[0] == JOINT:
        return joint(desk.held, call[1])
    return line_break(desk.held, call[1], call[2])


def answer(desk, call):
    """The answer of one call, told as its number and behind it what is given to it."""
    if call[0] == LOAD:
        return load(desk, call[1])
    if desk.held is None:
        return [NO_LIST]
    return listed_answer(desk, call)


def split_calls(calls):
    """Each call as a list: its number, and what is given to it, each row as a list of its own."""
    found = []
    place = 0
    while place < len(calls):
        call = [calls[place]]
        place += 1
        for kind in GIVEN[call[0]]:
            if kind == "number":
                call.append(calls[place])
                place += 1
            else:
                end = place + 1 + calls[place]
                call.append(calls[place + 1:end])
                place = end
        found.append(call)
    return found


def answers(calls):
    """The answers of all calls on one new object, each with how many numbers it has ahead of it."""
    desk = Desk()
    told = []
    for call in split_calls(calls):
        numbers = answer(desk, call)
        told.append(len(numbers))
        told.extend(numbers)
    return told
