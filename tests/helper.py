"""What the tests share: calls told as numbers, answers taken apart, and parting told in another way."""

from partedwordsdesk.patterns import answers

WORKED = (
    "margins 2 2 ; word ta-ble ; word ca-ble ; word ab-le ; pattern a1b ; pattern ab2l ; pattern .ab3 ;"
)
SHOWN = [1]
MARGINS = [3]


def as_bytes(text):
    """The bytes of a text that is told as a str or as a list of bytes."""
    return [ord(sign) for sign in text] if isinstance(text, str) else list(text)


def row(text):
    numbers = as_bytes(text)
    return [len(numbers)] + numbers


def load(text):
    return [0] + row(text)


def report(number):
    return [2, number]


def put(text):
    return [4] + row(text)


def apart(told):
    """The answers of a list of answers, one list each."""
    found = []
    place = 0
    while place < len(told):
        end = place + 1 + told[place]
        assert end <= len(told), "an answer is shorter than its count tells"
        found.append(told[place + 1:end])
        place = end
    return found


def run(*calls):
    """The answers of these calls on one object."""
    line = [number for call in calls for number in call]
    assert 1 <= len(calls) <= 10 and len(line) <= 17000, "no more than the document hands in"
    told = apart(answers(line))
    assert len(told) == len(calls)
    return told


def shown_text(answer):
    """The text that shown told, whose count has to be right."""
    assert answer[0] == len(answer) - 1
    return "".join(chr(byte) for byte in answer[1:])


def form(left, right, words, patterns):
    """The one form of a list with these chunks."""
    lines = [f"margins {left} {right} ;"]
    lines += [f"word {word} ;" for word in words]
    lines += [f"pattern {pattern} ;" for pattern in patterns]
    return "".join(line + "\n" for line in lines)


def plain_letters(chunk):
    return "".join(sign for sign in chunk if sign.isalpha())


def plain_key(pattern):
    """A pattern without its digits: by this two patterns are the same."""
    return "".join(sign for sign in pattern if not sign.isdigit())


def plain_levels(letters, patterns):
    """The level at each gap, found by sliding each pattern along the letters between two points."""
    framed = "." + letters + "."
    found = {gap: 0 for gap in range(len(letters) + 1)}
    for pattern in patterns:
        bare = plain_key(pattern)
        for start in range(len(framed) - len(bare) + 1):
            if framed[start:start + len(bare)] == bare:
                gap = start - 1
                for sign in pattern:
                    if sign.isdigit():
                        found[gap] = max(found[gap], int(sign))
                    else:
                        gap += 1
    return found


def plain_parted(left, right, letters, patterns):
    level = plain_levels(letters, patterns)
    return {
        gap for gap in range(1, len(letters))
        if level[gap] % 2 == 1 and left <= gap <= len(letters) - right
    }


def plain_gaps(word):
    """The gaps where a word's chunk has a -."""
    return {len(plain_letters(word[:place])) for place, sign in enumerate(word) if sign == "-"}


def plain_report(left, right, word, patterns):
    letters = plain_letters(word)
    parted = plain_parted(left, right, letters, patterns)
    allowed = plain_gaps(word)
    fit = [n for n, pattern in enumerate(patterns) if plain_key(pattern) in "." + letters + "."]
    misses = {gap for gap in allowed - parted if left <= gap <= len(letters) - right}
    level = plain_levels(letters, patterns)
    greatest = max(level[gap] for gap in range(1, len(letters)))
    exact = int(parted <= allowed and not misses)
    counts = [len(parted & allowed), len(parted - allowed), len(misses)]
    return [exact] + counts + [greatest, len(fit)] + fit


def plain_margins(words, patterns):
    wrong = {}
    exact = []
    for left in range(6):
        for right in range(6):
            told = [plain_report(left, right, word, patterns) for word in words]
            wrong[left, right] = sum(one[2] + one[3] for one in told)
            exact.append(sum(one[0] for one in told))
    best = min(wrong, key=lambda pair: (wrong[pair], pair))
    return [best[0], best[1], wrong[best]] + exact


class PlainDesk:
    """A list as tuples of chunks, changed in the plainest way, to hold the program's answers against."""

    def __init__(self, left, right, words, patterns):
        self.left, self.right = left, right
        self.words, self.patterns = list(words), list(patterns)

    def form(self):
        return form(self.left, self.right, self.words, self.patterns)

    def parted(self):
        return {
            plain_letters(word): plain_parted(self.left, self.right, plain_letters(word), self.patterns)
            for word in self.words
        }

    def put(self, name, chunk):
        """The answer of putting a right item, or -5."""
        entries = self.words if name == "word" else self.patterns
        same = plain_letters if name == "word" else plain_key
        most = 24 if name == "word" else 40
        before_words = list(self.words)
        before = self.parted()
        places = [n for n, entry in enumerate(entries) if same(entry) == same(chunk)]
        if places:
            entries[places[0]] = chunk
        elif len(entries) == most:
            return [-5]
        else:
            entries.append(chunk)
        after = self.parted()
        touched = [
            n for n, word in enumerate(before_words)
            if before[plain_letters(word)] != after[plain_letters(word)]
        ]
        return [len(self.words), len(self.patterns), len(touched)] + touched

    def answers(self):
        """What every call that changes nothing has to answer."""
        text = self.form()
        told = [[len(text)] + as_bytes(text)]
        told += [plain_report(self.left, self.right, word, self.patterns) for word in self.words]
        return told + [plain_margins(self.words, self.patterns)]


class Chance:
    """Numbers that look like chance but are the same each time and under each Python."""

    def __init__(self, seed):
        self.state = seed

    def below(self, most):
        self.state = (self.state * 1103515245 + 12345) % 2147483648
        return (self.state >> 8) % most

    def letters(self, least, most, alphabet="abc"):
        size = least + self.below(most - least + 1)
        return "".join(alphabet[self.below(len(alphabet))] for _ in range(size))

    def word(self):
        letters = self.letters(2, 16 if self.below(4) == 0 else 7)
        chunk = letters[0]
        for sign in letters[1:]:
            chunk += ("-" if self.below(3) == 0 else "") + sign
        return chunk

    def pattern(self):
        while True:
            letters = self.letters(1, 6 if self.below(5) == 0 else 3)
            digits = [self.below(10) if self.below(2) == 0 else 0 for _ in range(len(letters) + 1)]
            if any(digits):
                break
        chunk = str(digits[0] or "")
        for sign, digit in zip(letters, digits[1:]):
            chunk += sign + str(digit or "")
        front = "." if self.below(5) == 0 else ""
        end = "." if self.below(5) == 0 else ""
        return front + chunk + end

    def several(self, make, same, most):
        """Up to so many different ones."""
        found = {}
        for _ in range(self.below(most + 1)):
            one = make()
            found.setdefault(same(one), one)
        return list(found.values())

    def desk(self, most_words=24, most_patterns=40):
        words = self.several(self.word, plain_letters, most_words)
        patterns = self.several(self.pattern, plain_key, most_patterns)
        return PlainDesk(self.below(6), self.below(6), words, patterns)
