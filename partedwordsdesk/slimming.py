"""Patterns that do nothing: those that are needless, and lists made slim."""

from partedwordsdesk.changes import without_pattern
from partedwordsdesk.parting import parted_gaps


def partings(listing):
    """For each listed word the gaps at which it is parted."""
    return [parted_gaps(listing, word.letters) for word in listing.words]


def needless_patterns(listing):
    """The numbers of the patterns that can be dropped, each alone, without a word touched."""
    parted = partings(listing)
    found = []
    for number in range(len(listing.patterns)):
        if partings(without_pattern(listing, number)) == parted:
            found.append(number)
    return found


def gone_through(listing, parted):
    """The list behind one way from its first pattern on, each dropped if the words stay parted like this."""
    number = 0
    while number < len(listing.patterns):
        fewer = without_pattern(listing, number)
        if partings(fewer) == parted:
            listing = fewer
        else:
            number += 1
    return listing


def slimmed(listing):
    """The list made slim."""
    parted = partings(listing)
    before = listing
    after = gone_through(before, parted)
    # a pattern that had to hide the digit of a later one can be dropped when that one is gone
    while len(after.patterns) < len(before.patterns):
        before = after
        after = gone_through(before, parted)
    return after
