"""What the tests share: calls told as numbers, answers taken apart, and parting told in another way."""

from partedwordsdesk.patterns import answers

WORKED = (
    "margins 2 2 ; word ta-ble ; word ca-ble ; word ab-le ; pattern a1b ; pattern ab2l ; pattern .ab3 ;"
)
SHOWN = [1]
MARGINS = [3]
NEEDLESS = [6]
SLIM = [7]
WORD, PATTERN = 0, 1
FARTHEST = 10 ** 18


def as_bytes(text):
    """The bytes of a text that is told as a str or as a list of bytes."""
    return [ord(sign) for sign in text] if isinstance(text, str) else list(text)


def row(text):
    numbers = as_bytes(text)
    return [len(numbers)] + numbers


def load(text):
    return [0] + row(text)


def report(number):
    return [2, number]


def put(text):
    return [4] + row(text)


def drop(kind, number):
    return [5, kind, number]


def joint(letters):
    return [8] + row(letters)


def line_break(places, letters):
    return [9, places] + row(letters)


def wrong_letters():
    """Rows that are not 2 to 16 small letters: their number, each byte at each end, what a text may have."""
    found = [as_bytes("x" * size) for size in (0, 1, 17, 40, 41, 4097, 8192)]
    for byte in range(256):
        if byte not in range(97, 123):
            found += [[byte], [byte, 97], [97, byte], [97, byte, 97], [97, 97, byte], [byte, 97, 97]]
    texts = "ta-ble", " able", "able ", "able\n", "able#", "able;", ".able", "able.", "a1b", "ab le"
    return found + [as_bytes(text) for text in texts]


def apart(told):
    """The answers of a list of answers, one list each."""
    found = []
    place = 0
    while place < len(told):
        end = place + 1 + told[place]
        assert end <= len(told), "an answer is shorter than its count tells"
        found.append(told[place + 1:end])
        place = end
    return found


def run(*calls):
    """The answers of these calls on one object."""
    line = [number for call in calls for number in call]
    assert 1 <= len(calls) <= 10 and len(line) <= 17000, "no more than the document hands in"
    told = apart(answers(line))
    assert len(told) == len(calls)
    return told


def shown_text(answer):
    """The text that shown told, whose count has to be right."""
    assert answer[0] == len(answer) - 1
    return "".join(chr(byte) for byte in answer[1:])


def form(left, right, words, patterns):
    """The one form of a list with these chunks."""
    lines = [f"margins {left} {right} ;"]
    lines += [f"word {word} ;" for word in words]
    lines += [f"pattern {pattern} ;" for pattern in patterns]
    return "".join(line + "\n" for line in lines)


def plain_letters(chunk):
    return "".join(sign for sign in chunk if sign.isalpha())


def plain_key(pattern):
    """A pattern without its digits: by this two patterns are the same."""
    return "".join(sign for sign in pattern if not sign.isdigit())


def plain_levels(letters, patterns):
    """The level at each gap, found by sliding each pattern along the letters between two points."""
    framed = "." + letters + "."
    found = {gap: 0 for gap in range(len(letters) + 1)}
    for pattern in patterns:
        bare = plain_key(pattern)
        for start in range(len(framed) - len(bare) + 1):
            if framed[start:start + len(bare)] == bare:
                gap = start - 1
                for sign in pattern:
                    if sign.isdigit():
                        found[gap] = max(found[gap], int(sign))
                    else:
                        gap += 1
    return found


def plain_parted(left, right, letters, patterns):
    level = plain_levels(letters, patterns)
    return {
        gap for gap in range(1, len(letters))
        if level[gap] % 2 == 1 and left <= gap <= len(letters) - right
    }


def plain_gaps(word):
    """The gaps where a word's chunk has a -."""
    return {len(plain_letters(word[:place])) for place, sign in enumerate(word) if sign == "-"}


def plain_report(left, right, word, patterns):
    letters = plain_letters(word)
    parted = plain_parted(left, right, letters, patterns)
    allowed = plain_gaps(word)
    fit = [n for n, pattern in enumerate(patterns) if plain_key(pattern) in "." + letters + "."]
    misses = {gap for gap in allowed - parted if left <= gap <= len(letters) - right}
    level = plain_levels(letters, patterns)
    greatest = max(level[gap] for gap in range(1, len(letters)))
    exact = int(parted <= allowed and not misses)
    counts = [len(parted & allowed), len(parted - allowed), len(misses)]
    return [exact] + counts + [greatest, len(fit)] + fit


def plain_margins(words, patterns):
    wrong = {}
    exact = []
    for left in range(6):
        for right in range(6):
            told = [plain_report(left, right, word, patterns) for word in words]
            wrong[left, right] = sum(one[2] + one[3] for one in told)
            exact.append(sum(one[0] for one in told))
    best = min(wrong, key=lambda pair: (wrong[pair], pair))
    return [best[0], best[1], wrong[best]] + exact


class PlainDesk:
    """A list as tuples of chunks, changed in the plainest way, to hold the program's answers against."""

    def __init__(self, left, right, words, patterns):
        self.left, self.right = left, right
        self.words, self.patterns = list(words), list(patterns)

    def form(self):
        return form(self.left, self.right, self.words, self.patterns)

    def parted_letters(self, letters):
        return plain_parted(self.left, self.right, letters, self.patterns)

    def parted(self):
        return {plain_letters(word): self.parted_letters(plain_letters(word)) for word in self.words}

    def told(self, words, before):
        """The answer of a change, by the words of before and how they were parted."""
        after = self.parted()
        touched = []
        for number, word in enumerate(words):
            letters = plain_letters(word)
            if letters in after and after[letters] != before[letters]:
                touched.append(number)
        return [len(self.words), len(self.patterns), len(touched)] + touched

    def put(self, name, chunk):
        """The answer of putting a right item, or -5."""
        entries = self.words if name == "word" else self.patterns
        same = plain_letters if name == "word" else plain_key
        most = 24 if name == "word" else 40
        words, before = list(self.words), self.parted()
        places = [n for n, entry in enumerate(entries) if same(entry) == same(chunk)]
        if places:
            entries[places[0]] = chunk
        elif len(entries) == most:
            return [-5]
        else:
            entries.append(chunk)
        return self.told(words, before)

    def drop(self, kind, number):
        if kind not in (0, 1):
            return [-4]
        entries = (self.words, self.patterns)[kind]
        if number not in range(len(entries)):
            return [-2]
        words, before = list(self.words), self.parted()
        del entries[number]
        return self.told(words, before)

    def without(self, pattern):
        rest = [one for one in self.patterns if one != pattern]
        return PlainDesk(self.left, self.right, self.words, rest)

    def needless(self):
        parted = self.parted()
        found = [n for n, one in enumerate(self.patterns) if self.without(one).parted() == parted]
        return [len(found)] + found

    def slim_once(self, parted):
        for pattern in list(self.patterns):
            if self.without(pattern).parted() == parted:
                self.patterns = self.without(pattern).patterns

    def slim(self):
        parted = self.parted()
        sizes = [len(self.patterns), -1]
        while sizes[-1] != sizes[-2]:
            self.slim_once(parted)
            sizes.append(len(self.patterns))
        return [sizes[-1], sizes[0] - sizes[-1]]

    def joint(self, letters):
        """The answer of joint for 2 to 16 small letters."""
        listed = [plain_letters(word) for word in self.words]
        joints = [gap for gap in range(len(letters) + 1) if letters[:gap] in listed and letters[gap:] in listed]
        one = sorted(self.parted_letters(letters))
        told = [len(joints)]
        if joints:
            first = joints[0]
            back = {first + gap for gap in self.parted_letters(letters[first:])}
            two = sorted(self.parted_letters(letters[:first]) | {first} | back)
            told += [first, len(two)] + two
        return told + [len(one)] + one

    def line_break(self, places, letters):
        """The answer of break for 2 to 16 small letters and 0 to 100 places."""
        found = [gap for gap in self.parted_letters(letters) if len(letters[:gap]) + 1 <= places]
        return [1, max(found)] if found else [0]

    def report(self, number):
        if number not in range(len(self.words)):
            return [-2]
        return plain_report(self.left, self.right, self.words[number], self.patterns)

    def shown(self):
        text = self.form()
        return [len(text)] + as_bytes(text)

    def margins(self):
        return plain_margins(self.words, self.patterns)


class Chance:
    """Numbers that look like chance but are the same each time and under each Python."""

    def __init__(self, seed):
        self.state = seed

    def below(self, most):
        self.state = (self.state * 1103515245 + 12345) % 2147483648
        return (self.state >> 8) % most

    def letters(self, least, most, alphabet="abc"):
        size = least + self.below(most - least + 1)
        return "".join(alphabet[self.below(len(alphabet))] for _ in range(size))

    def word(self):
        letters = self.letters(2, 16 if self.below(4) == 0 else 7)
        chunk = letters[0]
        for sign in letters[1:]:
            chunk += ("-" if self.below(3) == 0 else "") + sign
        return chunk

    def pattern(self):
        while True:
            letters = self.letters(1, 6 if self.below(5) == 0 else 3)
            digits = [self.below(10) if self.below(2) == 0 else 0 for _ in range(len(letters) + 1)]
            if any(digits):
                break
        chunk = str(digits[0] or "")
        for sign, digit in zip(letters, digits[1:]):
            chunk += sign + str(digit or "")
        front = "." if self.below(5) == 0 else ""
        end = "." if self.below(5) == 0 else ""
        return front + chunk + end

    def several(self, make, same, most):
        """Up to so many different ones."""
        found = {}
        for _ in range(self.below(most + 1)):
            one = make()
            found.setdefault(same(one), one)
        return list(found.values())

    def desk(self, most_words=24, most_patterns=40):
        words = self.several(self.word, plain_letters, most_words)
        patterns = self.several(self.pattern, plain_key, most_patterns)
        return PlainDesk(self.below(6), self.below(6), words, patterns)
