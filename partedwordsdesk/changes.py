"""Lists as they are behind a change, and the words that a change touches."""

from partedwordsdesk.listing import MOST_PATTERNS, MOST_WORDS, Listing, Word, number_of
from partedwordsdesk.parting import parted_gaps


def with_entry(entries, entry):
    """The words, or the patterns, when one has taken its place among them."""
    number = number_of(entries, entry.key)
    return entries[:number] + [entry] + entries[number + 1:]


def with_item(listing, item):
    """The list when an item has been put into it."""
    if isinstance(item, Word):
        return Listing(listing.left, listing.right, with_entry(listing.words, item), listing.patterns)
    return Listing(listing.left, listing.right, listing.words, with_entry(listing.patterns, item))


def without_entry(entries, number):
    """The words, or the patterns, when one is dropped: those behind it move up."""
    return entries[:number] + entries[number + 1:]


def without_word(listing, number):
    """The list when a word is dropped."""
    return Listing(listing.left, listing.right, without_entry(listing.words, number), listing.patterns)


def without_pattern(listing, number):
    """The list when a pattern is dropped."""
    return Listing(listing.left, listing.right, listing.words, without_entry(listing.patterns, number))


def is_too_long(listing):
    """Whether there are more words or patterns than a list may have."""
    return len(listing.words) > MOST_WORDS or len(listing.patterns) > MOST_PATTERNS


def is_touched(word, before, after):
    """Whether a listed word of before is still listed, and is parted otherwise."""
    if number_of(after.words, word.key) == len(after.words):
        return False
    return parted_gaps(before, word.letters) != parted_gaps(after, word.letters)


def touched(before, after):
    """The numbers, by the list of before, of the words that are touched."""
    return [number for number, word in enumerate(before.words) if is_touched(word, before, after)]
