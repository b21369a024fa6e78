"""joint: letters put together of two listed words, parted as two words and as one."""

import unittest

from helper import (
    PATTERN, SHOWN, WORD, WORKED, Chance, drop, form, joint, load, plain_letters, put, run,
    wrong_letters,
)


def joined(left, right, words, patterns, letters):
    return run(load(form(left, right, words, patterns)), joint(letters))[1]


class Joints(unittest.TestCase):
    def test_the_worked_letters(self):
        self.assertEqual(run(load(WORKED), joint("cableable"))[1], [1, 5, 3, 2, 5, 7, 2, 2, 6])

    def test_a_word_with_itself(self):
        self.assertEqual(joined(0, 0, ["ab"], [], "abab"), [1, 2, 1, 2, 0])

    def test_two_words_in_either_order(self):
        words = ["ab", "cde"]
        self.assertEqual(joined(0, 0, words, [], "abcde"), [1, 2, 1, 2, 0])
        self.assertEqual(joined(0, 0, words, [], "cdeab"), [1, 3, 1, 3, 0])

    def test_both_have_to_be_listed(self):
        words = ["ab", "cde"]
        for letters in ("abxy", "xyab", "abcd", "bcde", "ab", "cde", "abcdea", "aabcde", "abcdeab", "xy"):
            self.assertEqual(joined(0, 0, words, [], letters), [0, 0], letters)

    def test_three_words_are_not_two(self):
        self.assertEqual(joined(0, 0, ["ab"], [], "ababab"), [0, 0])
        self.assertEqual(joined(0, 0, ["ab", "abab"], [], "ababab"), [2, 2, 1, 2, 0])

    def test_the_first_of_several(self):
        words = ["aaaa", "aaa", "aa"]
        self.assertEqual(joined(0, 0, words, [], "aaaa"), [1, 2, 1, 2, 0])
        self.assertEqual(joined(0, 0, words, [], "aaaaa"), [2, 2, 1, 2, 0])
        self.assertEqual(joined(0, 0, words, [], "aaaaaa"), [3, 2, 1, 2, 0])
        self.assertEqual(joined(0, 0, words, [], "aaaaaaa"), [2, 3, 1, 3, 0])
        self.assertEqual(joined(0, 0, words, [], "a" * 9), [0, 0])

    def test_as_many_as_there_can_be(self):
        words = ["a" * size for size in range(2, 15)]
        self.assertEqual(joined(0, 0, words, [], "a" * 16), [13, 2, 1, 2, 0])
        gaps = list(range(1, 16))
        self.assertEqual(joined(0, 0, words, ["a1a"], "a" * 16), [13, 2, 15] + gaps + [15] + gaps)

    def test_without_words(self):
        self.assertEqual(joined(0, 0, [], ["a1b"], "abab"), [0, 2, 1, 3])

    def test_a_word_alone_has_no_joint(self):
        # no word has less than two letters, so neither end of the letters is one
        self.assertEqual(joined(0, 0, ["ab"], ["a1b"], "ab"), [0, 1, 1])

    def test_where_a_word_may_be_parted_does_not_matter(self):
        self.assertEqual(joined(0, 0, ["a-b", "c-d-e"], ["a1b"], "abcde"), [1, 2, 2, 1, 2, 1, 1])


class AsTwoWords(unittest.TestCase):
    def test_each_with_margins_of_its_own(self):
        words = ["abcde", "vwxyz"]
        self.assertEqual(
            joined(2, 2, words, ["a1b1c1d1e", "v1w1x1y1z"], "abcdevwxyz"),
            [1, 5, 5, 2, 3, 5, 7, 8, 6, 2, 3, 4, 6, 7, 8],
        )
        self.assertEqual(
            joined(1, 3, words, ["a1b1c1d1e", "v1w1x1y1z"], "abcdevwxyz"),
            [1, 5, 5, 1, 2, 5, 6, 7, 6, 1, 2, 3, 4, 6, 7],
        )
        self.assertEqual(
            joined(3, 1, words, ["a1b1c1d1e", "v1w1x1y1z"], "abcdevwxyz"),
            [1, 5, 5, 3, 4, 5, 8, 9, 6, 3, 4, 6, 7, 8, 9],
        )

    def test_the_joint_stands_outside_the_margins_too(self):
        self.assertEqual(joined(5, 5, ["ab", "cd"], ["b1c"], "abcd"), [1, 2, 1, 2, 0])
        self.assertEqual(joined(3, 0, ["ab", "cd"], ["b1c"], "abcd"), [1, 2, 1, 2, 0])
        self.assertEqual(joined(0, 3, ["ab", "cd"], ["b1c"], "abcd"), [1, 2, 1, 2, 0])

    def test_the_joint_is_told_once(self):
        self.assertEqual(joined(0, 0, ["ab", "cd"], ["b1c"], "abcd"), [1, 2, 1, 2, 1, 2])

    def test_an_even_level_at_the_joint_does_not_matter(self):
        self.assertEqual(joined(0, 0, ["ab", "cd"], ["b2c", "a1b"], "abcd"), [1, 2, 2, 1, 2, 1, 1])

    def test_patterns_over_the_joint_fit_in_one_word_alone(self):
        told = joined(0, 0, ["ab", "cd"], ["a1b2c", "c3d"], "abcd")
        self.assertEqual(told, [1, 2, 2, 2, 3, 2, 1, 3])
        told = joined(0, 0, ["ab", "cd"], ["a1b", "2bc", "a4bc", "b6c8d", "c1d"], "abcd")
        self.assertEqual(told, [1, 2, 3, 1, 2, 3, 0])

    def test_points_fit_at_each_words_ends(self):
        words = ["ab", "cd"]
        self.assertEqual(joined(0, 0, words, ["a1b."], "abcd"), [1, 2, 2, 1, 2, 0])
        self.assertEqual(joined(0, 0, words, [".c1d"], "abcd"), [1, 2, 2, 2, 3, 0])
        self.assertEqual(joined(0, 0, words, [".a1b", "c1d."], "abcd"), [1, 2, 3, 1, 2, 3, 2, 1, 3])
        self.assertEqual(joined(0, 0, words, [".a1b.", ".c1d."], "abcd"), [1, 2, 3, 1, 2, 3, 0])
        self.assertEqual(joined(0, 0, words, [".a1bc", "b1cd."], "abcd"), [1, 2, 1, 2, 2, 1, 2])

    def test_digits_behind_the_one_and_ahead_of_the_other(self):
        # these stand at the joint, as one word seen
        self.assertEqual(joined(0, 0, ["ab", "cd"], ["ab1"], "abcd"), [1, 2, 1, 2, 1, 2])
        self.assertEqual(joined(0, 0, ["ab", "cd"], ["3cd"], "abcd"), [1, 2, 1, 2, 1, 2])
        self.assertEqual(joined(0, 0, ["ab", "cd"], ["ab1", "2cd"], "abcd"), [1, 2, 1, 2, 0])

    def test_parted_at_the_first_joint_alone(self):
        self.assertEqual(joined(0, 0, ["aa", "aaa"], [], "aaaaa"), [2, 2, 1, 2, 0])


class AsOneWord(unittest.TestCase):
    def test_without_a_joint(self):
        self.assertEqual(run(load(WORKED), joint("able"))[1], [0, 1, 2])
        self.assertEqual(run(load(WORKED), joint("tables"))[1], [0, 1, 2])
        self.assertEqual(run(load(WORKED), joint("xyz"))[1], [0, 0])

    def test_margins(self):
        for left in range(6):
            for right in range(6):
                gaps = [gap for gap in range(1, 16) if left <= gap <= 16 - right]
                self.assertEqual(joined(left, right, [], ["a1a"], "a" * 16), [0, len(gaps)] + gaps)

    def test_letters_need_not_be_listed(self):
        self.assertEqual(joined(0, 0, ["xy"], ["a1b", "b2a"], "ababa"), [0, 2, 1, 3])


class Behind(unittest.TestCase):
    def test_changes(self):
        told = run(
            load(form(0, 0, ["ab"], ["a1b"])), joint("abcd"), put("word c-d ;"), joint("abcd"),
            put("pattern c1d. ;"), joint("abcd"), drop(PATTERN, 0), joint("abcd"), drop(WORD, 0), joint("abcd"),
        )
        self.assertEqual(told[1::2], [
            [0, 1, 1], [1, 2, 2, 1, 2, 1, 1], [1, 2, 3, 1, 2, 3, 2, 1, 3], [1, 2, 2, 2, 3, 1, 3], [0, 1, 3],
        ])

    def test_it_changes_nothing(self):
        told = run(load(WORKED), SHOWN, joint("cableable"), SHOWN, joint("cableable"))
        self.assertEqual(told[1:3], told[3:])


class Refusals(unittest.TestCase):
    def test_letters_that_are_not_2_to_16_small_ones(self):
        for letters in wrong_letters():
            told = run(load(WORKED), SHOWN, joint(letters), SHOWN)
            self.assertEqual(told[2], [-4], letters)
            self.assertEqual(told[3], told[1])

    def test_2_and_16_letters_and_each_of_them(self):
        self.assertEqual(run(load(WORKED), joint("xy"), joint("x" * 16))[1:], [[0, 0], [0, 0]])
        for byte in range(97, 123):
            self.assertEqual(run(load("margins 0 0 ;"), joint([byte, byte]))[1], [0, 0])

    def test_no_list_comes_before_all_else(self):
        for letters in ("", "x", "ab", "x" * 17, [255], "x" * 8192):
            self.assertEqual(run(joint(letters), SHOWN), [[-1], [-1]])


class ManyJoints(unittest.TestCase):
    def test_many_lists(self):
        chance = Chance(73)
        some = 0
        for _ in range(100):
            desk = chance.desk()
            calls = [load(desk.form())]
            expected = [[1, len(desk.words), len(desk.patterns)]]
            for _ in range(9):
                letters = chance.letters(2, 16)
                if desk.words and chance.below(4):
                    pair = [plain_letters(desk.words[chance.below(len(desk.words))]) for _ in range(2)]
                    letters = "".join(pair)[:16]
                calls.append(joint(letters))
                expected.append(desk.joint(letters))
                some += expected[-1][0] > 0
            self.assertEqual(run(*calls), expected)
        self.assertGreater(some, 100)


if __name__ == "__main__":
    unittest.main()
