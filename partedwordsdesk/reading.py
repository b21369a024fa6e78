"""Texts read as a list, as an item that is put into one, or as letters alone."""

from partedwordsdesk.listing import MOST_PATTERNS, MOST_WORDS, Listing, is_word_long, number_of, pattern_of, word_of
from partedwordsdesk.tokens import Fault, chunk_at, tokens_of

MARGIN_CHUNKS = ("0", "1", "2", "3", "4", "5")


class Reader:
    """Goes through a text's tokens from left to right."""

    def __init__(self, text):
        self.tokens = tokens_of(text)
        self.reached = 0

    def here(self):
        """The place of the token that is next."""
        return self.tokens[self.reached][0]

    def signs(self):
        """The signs of the token that is next; none at the text's end."""
        return self.tokens[self.reached][1]

    def go_on(self):
        """Goes behind the next token."""
        self.reached += 1

    def take(self, signs):
        """Goes behind the next token, which has to have these signs."""
        if self.signs() != signs:
            raise Fault(3, self.here())
        self.go_on()

    def chunk_here(self):
        """The chunk that has to be next."""
        if self.signs() == ";" or self.signs() == "":
            raise Fault(3, self.here())
        return self.signs()


def read_margin(reader):
    """The number of letters that one margin tells."""
    chunk = reader.chunk_here()
    if chunk not in MARGIN_CHUNKS:
        raise Fault(7, reader.here())
    reader.go_on()
    return int(chunk)


def read_entry(reader, name, made_of, earlier):
    """One word or pattern, from the chunk that names it to its semicolon."""
    reader.take(name)
    entry = made_of(reader.chunk_here())
    if entry is None:
        raise Fault(7, reader.here())
    if number_of(earlier, entry.key) < len(earlier):
        raise Fault(5, reader.here())
    reader.go_on()
    reader.take(";")
    return entry


def read_entries(reader, name, made_of, most):
    """All words, or all patterns, that stand one behind another from here on."""
    found = []
    while reader.signs() == name:
        if len(found) == most:
            raise Fault(4, reader.here())
        found.append(read_entry(reader, name, made_of, found))
    return found


def read_list(text):
    """The list that a text tells; a Fault if it tells none."""
    reader = Reader(text)
    reader.take("margins")
    left = read_margin(reader)
    right = read_margin(reader)
    reader.take(";")
    words = read_entries(reader, "word", word_of, MOST_WORDS)
    patterns = read_entries(reader, "pattern", pattern_of, MOST_PATTERNS)
    reader.take("")
    return Listing(left, right, words, patterns)


def read_item(text):
    """The one word or one pattern that a text tells; a Fault if it isn't just that."""
    reader = Reader(text)
    if reader.signs() == "word":
        item = read_entry(reader, "word", word_of, [])
    else:
        item = read_entry(reader, "pattern", pattern_of, [])
    reader.take("")
    return item


def read_letters(row):
    """The 2 to 16 small letters that a row of bytes is, or None if it is anything else."""
    letters = chunk_at(row, 0)
    if len(letters) < len(row) or not letters.isalpha() or not is_word_long(letters):
        return None
    return letters
