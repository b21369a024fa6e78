"""The promises 1, 2 and 4, held against lists that are made by rule."""

import unittest

from helper import (
    MARGINS, SHOWN, Chance, as_bytes, form, load, plain_letters, plain_parted, plain_report, put, report, run,
    shown_text,
)
from partedwordsdesk.changes import touched
from partedwordsdesk.reading import read_list


def some_put(chance):
    """A call that puts something: mostly right, now and then not."""
    kind = chance.below(8)
    if kind == 0:
        return put("word " + chance.letters(1, 3, "ab-1") + " ;")
    if kind == 1:
        return put("pattern " + chance.letters(1, 3, "ab.1") + " ;")
    if kind in (2, 3):
        return put(f"word {chance.word()} ;")
    return put(f"pattern {chance.pattern()} ;")


def chunks(text):
    """The margins, the words and the patterns of a one form."""
    rows = [line.split(" ") for line in text.splitlines()]
    words = [row[1] for row in rows if row[0] == "word"]
    patterns = [row[1] for row in rows if row[0] == "pattern"]
    return int(rows[0][1]), int(rows[0][2]), words, patterns


class AsIfLoaded(unittest.TestCase):
    """Promise 1: after any changes all is as if the list as it is then had been loaded."""

    def test_after_changes(self):
        chance = Chance(41)
        for _ in range(60):
            desk = chance.desk(12, 12)
            changes = [load(desk.form())] + [some_put(chance) for _ in range(1 + chance.below(5))]
            text = shown_text(run(*changes, SHOWN)[-1])
            more = [SHOWN, MARGINS, report(chance.below(14)), some_put(chance)]
            changed = run(*changes, *more)[len(changes):]
            self.assertEqual(changed, run(load(text), *more)[1:])

    def test_after_a_change_and_a_fault(self):
        chance = Chance(43)
        for _ in range(20):
            desk = chance.desk(12, 12)
            changes = [load(desk.form()), some_put(chance), load(desk.form() + "word"), put("x")]
            text = shown_text(run(*changes, SHOWN)[-1])
            more = [report(0), MARGINS, SHOWN]
            self.assertEqual(run(*changes, *more)[4:], run(load(text), *more)[1:])


class JustThoseTouched(unittest.TestCase):
    """Promise 2: the words told to be touched are just those parted otherwise than before."""

    def test_put(self):
        chance = Chance(47)
        some = 0
        for _ in range(150):
            desk = chance.desk(24, 10)
            told = run(load(desk.form()), some_put(chance), SHOWN)
            left, right, words, patterns = chunks(shown_text(told[2]))
            if told[1][0] < 0:
                self.assertEqual(shown_text(told[2]), desk.form())
                continue
            still = [plain_letters(word) for word in words]
            touched = []
            for number, word in enumerate(desk.words):
                letters = plain_letters(word)
                before = plain_parted(left, right, letters, desk.patterns)
                if letters in still and before != plain_parted(left, right, letters, patterns):
                    touched.append(number)
            self.assertEqual(told[1], [len(words), len(patterns), len(touched)] + touched)
            some += len(touched) > 1
        self.assertGreater(some, 10)


    def test_words_no_longer_listed(self):
        before = read_list(as_bytes(form(1, 1, ["ab", "ba", "a-bb", "bb"], [])))
        after = read_list(as_bytes(form(1, 1, ["bb", "abb", "aab"], ["a1b"])))
        self.assertEqual(touched(before, after), [2])


class NoBetterMargins(unittest.TestCase):
    """Promise 4: no margins have fewer faults and misses than those told."""

    def test_by_the_reports_of_all_margins(self):
        chance = Chance(53)
        for _ in range(12):
            desk = chance.desk(6, 25)
            told = run(load(desk.form()), MARGINS)[1]
            wrong = {}
            for left in range(6):
                for right in range(6):
                    text = form(left, right, desk.words, desk.patterns)
                    reports = run(load(text), *[report(n) for n in range(len(desk.words))])[1:]
                    wrong[left, right] = sum(one[2] + one[3] for one in reports)
            self.assertEqual(told[2], min(wrong.values()))
            first = [pair for pair in sorted(wrong) if wrong[pair] == told[2]][0]
            self.assertEqual(tuple(told[:2]), first)

    def test_behind_changes(self):
        chance = Chance(59)
        for _ in range(30):
            desk = chance.desk(10, 10)
            told = run(load(desk.form()), some_put(chance), some_put(chance), SHOWN, MARGINS)
            words, patterns = chunks(shown_text(told[3]))[2:]
            for left in range(6):
                for right in range(6):
                    reports = [plain_report(left, right, word, patterns) for word in words]
                    self.assertLessEqual(told[4][2], sum(one[2] + one[3] for one in reports))


if __name__ == "__main__":
    unittest.main()
