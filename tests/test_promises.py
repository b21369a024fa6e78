"""The promises 1 to 6, held against lists that are made by rule."""

import unittest

from helper import (
    MARGINS, NEEDLESS, PATTERN, SHOWN, SLIM, WORD, Chance, as_bytes, drop, form, joint, line_break, load,
    plain_letters, plain_parted, plain_report, put, report, run, shown_text,
)
from partedwordsdesk.changes import touched
from partedwordsdesk.reading import read_list


def some_put(chance):
    """A call that puts something: mostly right, now and then not."""
    kind = chance.below(8)
    if kind == 0:
        return put("word " + chance.letters(1, 3, "ab-1") + " ;")
    if kind == 1:
        return put("pattern " + chance.letters(1, 3, "ab.1") + " ;")
    if kind in (2, 3):
        return put(f"word {chance.word()} ;")
    return put(f"pattern {chance.pattern()} ;")


def some_change(chance):
    """A call that puts, drops or makes slim: mostly right, now and then not."""
    kind = chance.below(5)
    if kind == 0:
        return SLIM
    if kind == 1:
        return drop(WORD, chance.below(14) - 1)
    if kind == 2:
        return drop(PATTERN, chance.below(14) - 1)
    return some_put(chance)


def pair_of(chance, words):
    """The letters of two listed words one behind the other, as far as sixteen go."""
    if not words:
        return "ab"
    return "".join(plain_letters(words[chance.below(len(words))]) for _ in range(2))[:16]


def parted_by(letters, text):
    """Where the list of this one form parts these letters."""
    left, right, words, patterns = chunks(text)
    return plain_parted(left, right, letters, patterns)


def chunks(text):
    """The margins, the words and the patterns of a one form."""
    rows = [line.split(" ") for line in text.splitlines()]
    words = [row[1] for row in rows if row[0] == "word"]
    patterns = [row[1] for row in rows if row[0] == "pattern"]
    return int(rows[0][1]), int(rows[0][2]), words, patterns


class AsIfLoaded(unittest.TestCase):
    """Promise 1: after any changes all is as if the list as it is then had been loaded."""

    def test_after_changes(self):
        chance = Chance(41)
        for _ in range(60):
            desk = chance.desk(12, 12)
            changes = [load(desk.form())] + [some_put(chance) for _ in range(1 + chance.below(5))]
            text = shown_text(run(*changes, SHOWN)[-1])
            more = [SHOWN, MARGINS, report(chance.below(14)), some_put(chance)]
            changed = run(*changes, *more)[len(changes):]
            self.assertEqual(changed, run(load(text), *more)[1:])

    def test_after_a_change_and_a_fault(self):
        chance = Chance(43)
        for _ in range(20):
            desk = chance.desk(12, 12)
            changes = [load(desk.form()), some_put(chance), load(desk.form() + "word"), put("x")]
            text = shown_text(run(*changes, SHOWN)[-1])
            more = [report(0), MARGINS, SHOWN]
            self.assertEqual(run(*changes, *more)[4:], run(load(text), *more)[1:])


    def test_all_that_is_told_after_all_changes(self):
        chance = Chance(89)
        for _ in range(100):
            desk = chance.desk(12, 12)
            changes = [load(desk.form())] + [some_change(chance) for _ in range(1 + chance.below(3))]
            text = shown_text(run(*changes, SHOWN)[-1])
            letters = pair_of(chance, chunks(text)[2])
            places = chance.below(17)
            more = [
                SHOWN, report(chance.below(12)), MARGINS, NEEDLESS, joint(letters), line_break(places, letters),
            ]
            self.assertEqual(run(*changes, *more)[len(changes):], run(load(text), *more)[1:])

    def test_changes_after_changes(self):
        chance = Chance(97)
        for _ in range(100):
            desk = chance.desk(12, 12)
            changes = [load(desk.form())] + [some_change(chance) for _ in range(1 + chance.below(3))]
            text = shown_text(run(*changes, SHOWN)[-1])
            more = [some_change(chance), some_change(chance), some_change(chance), SLIM, SHOWN, NEEDLESS]
            self.assertEqual(run(*changes, *more)[len(changes):], run(load(text), *more)[1:])


class JustThoseTouched(unittest.TestCase):
    """Promise 2: the words told to be touched are just those parted otherwise than before."""

    def touched_by(self, desk, change):
        """How many words of the desk's list the change touches, which has to be answered rightly."""
        told = run(load(desk.form()), change, SHOWN)
        text = shown_text(told[2])
        if told[1][0] < 0:
            self.assertEqual(text, desk.form())
            return 0
        words, patterns = chunks(text)[2:]
        still = [plain_letters(word) for word in words]
        touched = []
        for number, word in enumerate(desk.words):
            letters = plain_letters(word)
            if letters in still and parted_by(letters, desk.form()) != parted_by(letters, text):
                touched.append(number)
        self.assertEqual(told[1], [len(words), len(patterns), len(touched)] + touched)
        return len(touched)

    def test_put(self):
        chance = Chance(47)
        touched = [self.touched_by(chance.desk(24, 10), some_put(chance)) for _ in range(150)]
        self.assertGreater(len([size for size in touched if size > 1]), 10)

    def test_drop(self):
        chance = Chance(101)
        touched = []
        for _ in range(250):
            change = drop(min(1, chance.below(4)), chance.below(11))
            touched.append(self.touched_by(chance.desk(24, 10), change))
        self.assertGreater(len([size for size in touched if size > 1]), 10)

    def test_words_no_longer_listed(self):
        before = read_list(as_bytes(form(1, 1, ["ab", "ba", "a-bb", "bb"], [])))
        after = read_list(as_bytes(form(1, 1, ["bb", "abb", "aab"], ["a1b"])))
        self.assertEqual(touched(before, after), [2])


class WithoutNeedlessPatterns(unittest.TestCase):
    """Promise 3: without a needless pattern all is parted as before; made slim too, and none can be dropped then."""

    def parted(self, text, words):
        return [parted_by(plain_letters(word), text) for word in words]

    def test_just_the_needless_ones_can_go(self):
        chance = Chance(103)
        for _ in range(60):
            desk = chance.desk(8, 12)
            told = run(load(desk.form()), NEEDLESS)[1]
            before = self.parted(desk.form(), desk.words)
            free = []
            for number in range(len(desk.patterns)):
                dropped = run(load(desk.form()), drop(PATTERN, number), SHOWN)
                same = self.parted(shown_text(dropped[2]), desk.words) == before
                self.assertEqual(dropped[1][2] == 0, same)
                free += [number] if same else []
            self.assertEqual(told, [len(free)] + free)

    def test_slim(self):
        chance = Chance(107)
        for _ in range(100):
            desk = chance.desk(8, 20)
            told = run(load(desk.form()), SLIM, SHOWN, NEEDLESS, SLIM, SHOWN)
            text = shown_text(told[2])
            left, right, words, patterns = chunks(text)
            self.assertEqual((left, right, words), (desk.left, desk.right, desk.words))
            self.assertEqual(patterns, [one for one in desk.patterns if one in patterns])
            self.assertEqual(told[1], [len(patterns), len(desk.patterns) - len(patterns)])
            self.assertEqual(self.parted(text, words), self.parted(desk.form(), words))
            self.assertEqual(told[3:], [[0], [len(patterns), 0], told[2]])
            for number in range(len(patterns)):
                self.assertGreater(run(load(text), drop(PATTERN, number))[1][2], 0)


class NoBetterMargins(unittest.TestCase):
    """Promise 4: no margins have fewer faults and misses than those told."""

    def test_by_the_reports_of_all_margins(self):
        chance = Chance(53)
        for _ in range(12):
            desk = chance.desk(6, 25)
            told = run(load(desk.form()), MARGINS)[1]
            wrong = {}
            for left in range(6):
                for right in range(6):
                    text = form(left, right, desk.words, desk.patterns)
                    reports = run(load(text), *[report(n) for n in range(len(desk.words))])[1:]
                    wrong[left, right] = sum(one[2] + one[3] for one in reports)
            self.assertEqual(told[2], min(wrong.values()))
            first = [pair for pair in sorted(wrong) if wrong[pair] == told[2]][0]
            self.assertEqual(tuple(told[:2]), first)

    def test_behind_changes(self):
        chance = Chance(59)
        for _ in range(30):
            desk = chance.desk(10, 10)
            told = run(load(desk.form()), some_put(chance), some_put(chance), SHOWN, MARGINS)
            words, patterns = chunks(shown_text(told[3]))[2:]
            for left in range(6):
                for right in range(6):
                    reports = [plain_report(left, right, word, patterns) for word in words]
                    self.assertLessEqual(told[4][2], sum(one[2] + one[3] for one in reports))


class AsTwoWords(unittest.TestCase):
    """Promise 5: as two words letters are parted as each of both is, and at the joint."""

    def test_by_each_of_both(self):
        chance = Chance(109)
        some = 0
        for _ in range(150):
            desk = chance.desk(12, 20)
            letters = pair_of(chance, desk.words)
            told = run(load(desk.form()), joint(letters))[1]
            if told[0] == 0:
                continue
            first = told[1]
            front = parted_by(letters[:first], desk.form())
            back = parted_by(letters[first:], desk.form())
            gaps = sorted(front) + [first] + sorted(first + gap for gap in back)
            self.assertEqual(told[2:3 + len(gaps)], [len(gaps)] + gaps)
            listed = [plain_letters(word) for word in desk.words]
            self.assertTrue(letters[:first] in listed and letters[first:] in listed)
            some += len(gaps) > 2
        self.assertGreater(some, 30)


class WhereLettersBreak(unittest.TestCase):
    """Promise 6: where letters break they are parted, and no such gap that fits is greater."""

    def test_at_each_number_of_places(self):
        chance = Chance(113)
        some = 0
        for _ in range(80):
            desk = chance.desk(6, 20)
            letters = pair_of(chance, desk.words)
            gaps = parted_by(letters, desk.form())
            some += len(gaps) > 1
            for first in (0, 9, 92):
                calls = [line_break(places, letters) for places in range(first, first + 9)]
                for places, told in enumerate(run(load(desk.form()), *calls)[1:], first):
                    fitting = [gap for gap in gaps if gap < places]
                    if told == [0]:
                        self.assertEqual(fitting, [])
                    else:
                        self.assertEqual(told[0], 1)
                        self.assertIn(told[1], fitting)
                        self.assertEqual(told[1:], [max(fitting)])
        self.assertGreater(some, 20)


if __name__ == "__main__":
    unittest.main()
