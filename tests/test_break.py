"""break: the greatest gap at which letters are parted that fits in a line's places."""

import unittest

from helper import (
    FARTHEST, PATTERN, SHOWN, WORKED, Chance, drop, form, line_break, load, plain_letters, put, run, wrong_letters,
)

ALL = form(0, 0, [], ["a1a"])


def broken(text, places, letters):
    return run(load(text), line_break(places, letters))[1]


class Breaks(unittest.TestCase):
    def test_the_worked_ones(self):
        self.assertEqual(broken(WORKED, 4, "table"), [1, 2])
        self.assertEqual(broken(WORKED, 2, "table"), [0])

    def test_one_place_is_for_a_sign_behind_the_letters(self):
        self.assertEqual(broken(WORKED, 3, "table"), [1, 2])
        self.assertEqual(broken(WORKED, 2, "table"), [0])

    def test_the_greatest_that_fits(self):
        for places in range(101):
            gap = min(places - 1, 15)
            self.assertEqual(broken(ALL, places, "a" * 16), [1, gap] if gap > 0 else [0], places)

    def test_gaps_between_those_that_are_parted(self):
        text = form(0, 0, [], ["b1c", "e1f"])
        told = [broken(text, places, "abcdefg") for places in range(9)]
        self.assertEqual(told, [[0]] * 3 + [[1, 2]] * 3 + [[1, 5]] * 3)

    def test_no_place_and_one(self):
        self.assertEqual(broken(ALL, 0, "aa"), [0])
        self.assertEqual(broken(ALL, 1, "aa"), [0])
        self.assertEqual(broken(ALL, 2, "aa"), [1, 1])

    def test_a_hundred_places(self):
        self.assertEqual(broken(ALL, 100, "aa"), [1, 1])
        self.assertEqual(broken(ALL, 99, "a" * 16), [1, 15])
        self.assertEqual(broken(ALL, 100, "xy"), [0])

    def test_letters_that_fit_whole_break_too(self):
        self.assertEqual(broken(WORKED, 50, "table"), [1, 2])
        self.assertEqual(broken(WORKED, 5, "table"), [1, 2])

    def test_within_the_margins(self):
        for left in range(6):
            for right in range(6):
                text = form(left, right, [], ["a1a"])
                self.assertEqual(broken(text, 100, "a" * 16), [1, min(15, 16 - right)])
                self.assertEqual(broken(text, 9, "a" * 9), [1, min(8, 9 - right)] if left + right < 10 else [0])
                self.assertEqual(broken(text, left, "a" * 16), [0])
                self.assertEqual(broken(text, max(left, 1) + 1, "a" * 16), [1, max(left, 1)])

    def test_without_patterns(self):
        self.assertEqual(broken("margins 0 0 ; word a-b ;", 100, "ab"), [0])

    def test_letters_need_not_be_listed(self):
        self.assertEqual(broken(WORKED, 10, "lable"), [1, 2])
        self.assertEqual(broken("margins 1 1 ; pattern a1b ;", 10, "xxab"), [1, 3])

    def test_where_a_word_may_be_parted_does_not_matter(self):
        self.assertEqual(broken(form(0, 0, ["a-b-c"], ["a1b"]), 3, "abc"), [1, 1])

    def test_behind_changes(self):
        told = run(
            load(form(1, 1, ["abc"], ["a1b"])), line_break(9, "abc"), put("pattern b1c ;"), line_break(9, "abc"),
            put("pattern b2c ;"), line_break(9, "abc"), drop(PATTERN, 0), line_break(9, "abc"),
        )
        self.assertEqual(told[1::2], [[1, 1], [1, 2], [1, 1], [0]])

    def test_it_changes_nothing(self):
        told = run(load(WORKED), SHOWN, line_break(4, "table"), SHOWN, line_break(4, "table"))
        self.assertEqual(told[1:3], told[3:])


class Refusals(unittest.TestCase):
    def refused(self, places, letters, refusal):
        told = run(load(WORKED), SHOWN, line_break(places, letters), SHOWN)
        self.assertEqual(told[2], [refusal], (places, letters))
        self.assertEqual(told[3], told[1])

    def test_places_from_0_to_100(self):
        for places in (-1, -2, 101, 102, -FARTHEST, FARTHEST):
            self.refused(places, "table", -3)
            self.refused(places, "xy", -3)

    def test_letters_that_are_not_2_to_16_small_ones(self):
        for letters in wrong_letters():
            self.refused(5, letters, -4)

    def test_2_and_16_letters_and_each_of_them(self):
        self.assertEqual(run(load(WORKED), line_break(5, "xy"), line_break(5, "x" * 16))[1:], [[0], [0]])
        for byte in range(97, 123):
            self.assertEqual(run(load("margins 0 0 ;"), line_break(5, [byte, byte]))[1], [0])

    def test_letters_come_before_places(self):
        for places in (-1, 101, -FARTHEST, FARTHEST):
            for letters in ("", "x", "x" * 17, "x" * 8192, "ta-ble", [255, 255]):
                self.refused(places, letters, -4)

    def test_no_list_comes_before_all_else(self):
        for places in (-1, 0, 5, 100, 101, -FARTHEST, FARTHEST):
            for letters in ("", "x", "table", [255], "x" * 8192):
                self.assertEqual(run(line_break(places, letters), SHOWN), [[-1], [-1]])


class ManyBreaks(unittest.TestCase):
    def test_many_lists(self):
        chance = Chance(79)
        some = 0
        for _ in range(100):
            desk = chance.desk()
            calls = [load(desk.form())]
            expected = [[1, len(desk.words), len(desk.patterns)]]
            for _ in range(9):
                letters = chance.letters(2, 16)
                if desk.words and chance.below(2):
                    letters = plain_letters(desk.words[chance.below(len(desk.words))])
                places = chance.below(101) if chance.below(3) == 0 else chance.below(18)
                calls.append(line_break(places, letters))
                expected.append(desk.line_break(places, letters))
                some += expected[-1][0]
            self.assertEqual(run(*calls), expected)
        self.assertGreater(some, 100)


if __name__ == "__main__":
    unittest.main()
