"""report: a word held against how it is parted, its greatest level, the patterns that fit."""

import unittest

from helper import WORKED, Chance, form, load, plain_report, report, run

FAR = 10 ** 18


class Report(unittest.TestCase):
    def reported(self, left, right, word, patterns):
        """The report on the one word of a list."""
        told = run(load(form(left, right, [word], patterns)), report(0))
        self.assertEqual(told[0], [1, 1, len(patterns)])
        return told[1]

    def test_the_worked_words(self):
        told = run(load(WORKED), report(0), report(1), report(2))
        self.assertEqual(told[1], [1, 1, 0, 0, 2, 2, 0, 1])
        self.assertEqual(told[2], [1, 1, 0, 0, 2, 2, 0, 1])
        # able: at gap 2 level 3 of .ab3, so it is parted where it may be
        self.assertEqual(told[3], [1, 1, 0, 0, 3, 3, 0, 1, 2])

    def test_without_patterns(self):
        self.assertEqual(self.reported(0, 0, "table", []), [1, 0, 0, 0, 0, 0])
        self.assertEqual(self.reported(0, 0, "t-ab-le", []), [0, 0, 0, 2, 0, 0])

    def test_hits_faults_and_misses_together(self):
        self.assertEqual(self.reported(0, 0, "a-b-cd-e", ["a1b", "c1d"]), [0, 1, 1, 2, 1, 2, 0, 1])

    def test_a_fault_alone_and_a_miss_alone_are_not_exact(self):
        self.assertEqual(self.reported(0, 0, "ab", ["a1b"]), [0, 0, 1, 0, 1, 1, 0])
        self.assertEqual(self.reported(0, 0, "a-b", ["a2b"]), [0, 0, 0, 1, 2, 1, 0])

    def test_exact_with_hits(self):
        self.assertEqual(self.reported(0, 0, "a-b-c", ["a1b", "b3c"]), [1, 2, 0, 0, 3, 2, 0, 1])

    def test_odd_levels_part_and_even_ones_do_not(self):
        for digit in range(1, 10):
            hit = digit % 2
            self.assertEqual(
                self.reported(0, 0, "a-b", [f"a{digit}b"]), [hit, hit, 0, 1 - hit, digit, 1, 0]
            )

    def test_the_greatest_digit_counts(self):
        self.assertEqual(self.reported(0, 0, "a-b", ["a3b", "a2", "1b"]), [1, 1, 0, 0, 3, 3, 0, 1, 2])
        self.assertEqual(self.reported(0, 0, "a-b", ["a3b", "a4", "1b"]), [0, 0, 0, 1, 4, 3, 0, 1, 2])
        self.assertEqual(self.reported(0, 0, "ab", ["a4b", "a5", "6b"])[4], 6)

    def test_one_pattern_at_several_places(self):
        self.assertEqual(self.reported(0, 0, "a-ba-b", ["a1b"]), [1, 2, 0, 0, 1, 1, 0])

    def test_places_that_overlap(self):
        # aa fits at 0, 1 and 2: the digits 1 and 2 meet at gaps 1 and 2
        self.assertEqual(self.reported(0, 0, "aaa-a", ["2a1a"]), [1, 1, 0, 0, 2, 1, 0])

    def test_left_margin(self):
        for left in range(6):
            hits = 5 if left == 0 else 6 - left
            expected = [1, hits, 0, 0, 1, 1, 0]
            self.assertEqual(self.reported(left, 0, "a-a-a-a-a-a", ["a1a"]), expected)

    def test_right_margin(self):
        for right in range(6):
            hits = 5 if right == 0 else 6 - right
            expected = [1, hits, 0, 0, 1, 1, 0]
            self.assertEqual(self.reported(0, right, "a-a-a-a-a-a", ["a1a"]), expected)

    def test_margins_that_meet(self):
        self.assertEqual(self.reported(3, 3, "aaa-aaa", ["a1a"]), [1, 1, 0, 0, 1, 1, 0])
        self.assertEqual(self.reported(3, 4, "aaa-aaa", ["a1a"]), [1, 0, 0, 0, 1, 1, 0])
        self.assertEqual(self.reported(5, 5, "a-a", ["a1a"]), [1, 0, 0, 0, 1, 1, 0])

    def test_faults_and_misses_within_the_margins_alone(self):
        self.assertEqual(self.reported(2, 2, "abcd", ["a1b", "c1d"]), [1, 0, 0, 0, 1, 2, 0, 1])
        self.assertEqual(self.reported(2, 2, "abcd", ["a1b", "b1c", "c1d"]), [0, 0, 1, 0, 1, 3, 0, 1, 2])
        self.assertEqual(self.reported(2, 2, "a-bc-d", []), [1, 0, 0, 0, 0, 0])
        self.assertEqual(self.reported(2, 2, "a-b-c-d", []), [0, 0, 0, 1, 0, 0])

    def test_margins_do_not_matter_to_the_greatest_level(self):
        for margins in ((0, 0), (2, 2), (5, 5)):
            told = self.reported(margins[0], margins[1], "abcd", ["a7b", "c8d"])
            self.assertEqual(told[4], 8)

    def test_levels_ahead_of_and_behind_all_letters_are_not_told(self):
        self.assertEqual(self.reported(0, 0, "ab", ["9ab9"]), [1, 0, 0, 0, 0, 1, 0])
        self.assertEqual(self.reported(0, 0, "aba", ["9a"]), [0, 0, 1, 0, 9, 1, 0])

    def test_a_point_in_front(self):
        self.assertEqual(self.reported(0, 0, "a-bab", [".a1b"]), [1, 1, 0, 0, 1, 1, 0])
        self.assertEqual(self.reported(0, 0, "bab", [".a1b"]), [1, 0, 0, 0, 0, 0])

    def test_a_point_at_the_end(self):
        self.assertEqual(self.reported(0, 0, "aba-b", ["a1b."]), [1, 1, 0, 0, 1, 1, 0])
        self.assertEqual(self.reported(0, 0, "aba", ["a1b."]), [1, 0, 0, 0, 0, 0])

    def test_both_points(self):
        self.assertEqual(self.reported(0, 0, "a-b", [".a1b."]), [1, 1, 0, 0, 1, 1, 0])
        self.assertEqual(self.reported(0, 0, "aab", [".a1b."]), [1, 0, 0, 0, 0, 0])
        self.assertEqual(self.reported(0, 0, "abb", [".a1b."]), [1, 0, 0, 0, 0, 0])

    def test_a_pattern_that_is_longer_than_the_word(self):
        self.assertEqual(self.reported(0, 0, "ab", ["a1bc", "1xab", "abcdef1", ".ab1x"]), [1, 0, 0, 0, 0, 0])

    def test_the_patterns_that_fit_stand_in_order(self):
        told = self.reported(0, 0, "cab", ["x1", "b2", "ab1.", ".a1", "a2", "c2a", "ca4b", ".cab2."])
        self.assertEqual(told[5:], [6, 1, 2, 4, 5, 6, 7])

    def test_a_pattern_that_fits_without_a_digit_within_the_word(self):
        self.assertEqual(self.reported(0, 0, "ab", ["1ab", ".ab1"]), [1, 0, 0, 0, 0, 2, 0, 1])

    def test_each_word_by_its_number(self):
        words = ["ab", "b-a", "aa"]
        told = run(load(form(0, 0, words, ["a1b"])), report(2), report(1), report(0))
        self.assertEqual(told[1:], [[1, 0, 0, 0, 0, 0], [0, 0, 0, 1, 0, 0], [0, 0, 1, 0, 1, 1, 0]])

    def test_numbers_that_no_word_has(self):
        for number in (3, 4, 24, FAR - 1, FAR, -1, -2, -3, -FAR):
            self.assertEqual(run(load(WORKED), report(number))[1], [-2], number)
        self.assertEqual(run(load("margins 2 2 ;"), report(0))[1], [-2])

    def test_without_a_list(self):
        for number in (0, -1, FAR, -FAR):
            self.assertEqual(run(report(number)), [[-1]])

    def test_many_lists(self):
        chance = Chance(11)
        for _ in range(60):
            desk = chance.desk()
            for number, word in enumerate(desk.words):
                told = run(load(desk.form()), report(number))
                self.assertEqual(told[1], plain_report(desk.left, desk.right, word, desk.patterns))


if __name__ == "__main__":
    unittest.main()
