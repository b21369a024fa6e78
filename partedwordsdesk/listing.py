"""Words, patterns and the list of both: what each is made of, and a list's one form."""

MOST_WORDS = 24
MOST_PATTERNS = 40
LEAST_WORD_LETTERS = 2
MOST_WORD_LETTERS = 16
MOST_PATTERN_LETTERS = 6
PATTERN_DIGITS = "123456789"


class Word:
    """A listed word: its chunk, its letters, the gaps where it may be parted, what it is known by."""

    def __init__(self, chunk, letters, gaps):
        self.chunk = chunk
        self.letters = letters
        self.gaps = gaps
        self.key = letters


class Pattern:
    """A pattern: its chunk, its letters, a digit for each of its gaps (0 for none), its points."""

    def __init__(self, chunk, letters, digits, first, last):
        self.chunk = chunk
        self.letters = letters
        self.digits = digits
        self.first = first
        self.last = last
        self.key = (letters, first, last)


class Listing:
    """A list: its margins, its words and its patterns. It is never changed, but made anew."""

    def __init__(self, left, right, words, patterns):
        self.left = left
        self.right = right
        self.words = words
        self.patterns = patterns


def is_word_long(letters):
    """Whether these are as many letters as a word may have."""
    return LEAST_WORD_LETTERS <= len(letters) <= MOST_WORD_LETTERS


def word_of(chunk):
    """The word that a chunk tells, or None if it tells none."""
    gaps = []
    letters = ""
    for part in chunk.split("-"):
        if not part.isalpha():
            return None
        letters = letters + part
        gaps.append(len(letters))
    # the last part ends where the word does, and no - stands there
    gaps.pop()
    if not is_word_long(letters):
        return None
    return Word(chunk, letters, gaps)


def without_points(chunk, first, last):
    """What stands between a pattern's points."""
    if first:
        chunk = chunk[1:]
    if last:
        chunk = chunk[:-1]
    return chunk


def pattern_of(chunk):
    """The pattern that a chunk tells, or None if it tells none."""
    first = chunk.startswith(".")
    last = chunk.endswith(".")
    letters = ""
    digits = [0]
    for sign in without_points(chunk, first, last):
        if sign.isalpha():
            letters = letters + sign
            digits.append(0)
        elif sign in PATTERN_DIGITS and digits[-1] == 0:
            digits[-1] = int(sign)
        else:
            return None
    if letters == "" or len(letters) > MOST_PATTERN_LETTERS or max(digits) == 0:
        return None
    return Pattern(chunk, letters, digits, first, last)


def number_of(entries, key):
    """The number of the word or pattern known by this key; how many there are if none is."""
    for number, entry in enumerate(entries):
        if entry.key == key:
            return number
    return len(entries)


def one_form(listing):
    """The bytes of the list's one form."""
    lines = ["margins " + str(listing.left) + " " + str(listing.right) + " ;\n"]
    for word in listing.words:
        lines.append("word " + word.chunk + " ;\n")
    for pattern in listing.patterns:
        lines.append("pattern " + pattern.chunk + " ;\n")
    return [ord(sign) for sign in "".join(lines)]
