"""margins: the first best ones, and how many words are exact with each."""

import unittest

from helper import MARGINS, WORKED, Chance, form, load, plain_margins, report, run


def tried(words, patterns, left=2, right=2):
    return run(load(form(left, right, words, patterns)), MARGINS)[1]


class Margins(unittest.TestCase):
    def test_the_worked_list(self):
        told = run(load(WORKED), MARGINS)[1]
        self.assertEqual(told, [0, 4, 0] + [2, 2, 2, 2, 3, 3] * 2 + [3] * 24)

    def test_without_words(self):
        self.assertEqual(tried([], []), [0, 0, 0] + [0] * 36)
        self.assertEqual(tried([], ["a1b"]), [0, 0, 0] + [0] * 36)

    def test_without_patterns(self):
        self.assertEqual(tried(["ab", "cd"], []), [0, 0, 0] + [2] * 36)

    def test_the_first_of_all_that_are_as_good(self):
        # exact with every margin, so the very first is told
        self.assertEqual(tried(["a-b"], ["a1b"], 5, 5)[:3], [0, 0, 0])

    def test_by_left_and_then_by_right(self):
        # L 2 or R 4 make it exact; 0 4 comes before 2 0
        self.assertEqual(tried(["abcde"], ["a1b"]), [0, 5, 0] + [0, 0, 0, 0, 0, 1] * 2 + [1] * 24)
        # R alone can't take the fault at gap 1 away, as the word is too long: L has to
        told = tried(["abcdefg"], ["a1b"])
        self.assertEqual(told, [2, 0, 0] + [0] * 12 + [1] * 24)
        # and here R alone can
        told = tried(["abcdefg"], ["f1g"])
        self.assertEqual(told, [0, 2, 0] + [0, 0, 1, 1, 1, 1] * 6)

    def test_a_fault_and_a_hit_are_weighed(self):
        # gap 1 of ab is a fault, gap 1 of b-a a hit; without both nothing is wrong
        self.assertEqual(tried(["ab", "b-a"], ["a1b", "b1a"])[:3], [0, 2, 0])

    def test_where_something_is_always_wrong(self):
        # gap 5 of ten letters is within all margins
        told = tried(["aaaaabbbbb"], ["a1b"])
        self.assertEqual(told, [0, 0, 1] + [0] * 36)
        told = tried(["aaaaa-bbbbb"], [])
        self.assertEqual(told, [0, 0, 1] + [0] * 36)

    def test_the_fewest_faults_and_misses_not_the_most_exact_words(self):
        # gaps 1 to 4 of the first word are faults with small L, gap 5 of each is wrong always
        told = tried(["abcdefghijk", "xxxxx-xxxxx"], ["a1b1c1d1e1f"])
        self.assertEqual(told[:3], [5, 0, 2])
        # exact words: one with L 0 to 1, none with more, where a single word has three faults
        told = tried(["x-yyyyyyyyy", "ppppppqqqqqq", "vwvvvvvvvvv"], ["v1w", "p1q"])
        self.assertEqual(told[:3], [2, 0, 1])
        self.assertEqual(told[3:9], [0] * 6)
        self.assertEqual(told[15:], [2] * 24)

    def test_sums_over_all_words_and_gaps(self):
        told = tried(["ababababababab", "bababababababa"], ["a1b"])
        # gaps 1 3 .. 13 of the one are faults, gaps 2 4 .. 12 of the other: with 5 and 5 three and two are left
        self.assertEqual(told[:3], [5, 5, 5])

    def test_one_number_for_all_thirty_six(self):
        for words in ([], ["ab"], ["a-b", "abcdefghijklmnop"]):
            self.assertEqual(len(tried(words, ["a1b", "1c"])), 39)

    def test_each_number_is_what_the_reports_tell(self):
        chance = Chance(23)
        for _ in range(6):
            desk = chance.desk(8, 30)
            told = run(load(desk.form()), MARGINS)[1]
            for left in range(6):
                for right in range(6):
                    exact = 0
                    for number in range(len(desk.words)):
                        text = form(left, right, desk.words, desk.patterns)
                        exact += run(load(text), report(number))[1][0]
                    self.assertEqual(told[3 + 6 * left + right], exact)

    def test_the_lists_own_margins_do_not_matter(self):
        words, patterns = ["ab-ab", "ba-ba", "abc"], ["a1b", "b2a", "b3c"]
        told = tried(words, patterns, 0, 0)
        for left in range(6):
            for right in range(6):
                self.assertEqual(tried(words, patterns, left, right), told)

    def test_it_changes_no_margins(self):
        told = run(load(WORKED), [1], MARGINS, [1])
        self.assertEqual(told[1], told[3])

    def test_many_lists(self):
        chance = Chance(29)
        for _ in range(40):
            desk = chance.desk()
            told = run(load(desk.form()), MARGINS)[1]
            self.assertEqual(told, plain_margins(desk.words, desk.patterns))

    def test_without_a_list(self):
        self.assertEqual(run(MARGINS), [[-1]])


if __name__ == "__main__":
    unittest.main()
