"""needless: the patterns that can be dropped, each alone, without a word touched."""

import unittest

from helper import NEEDLESS, PATTERN, SHOWN, WORKED, Chance, drop, form, load, put, run


def needless(words, patterns, left=1, right=1):
    return run(load(form(left, right, words, patterns)), NEEDLESS)[1]


class Needless(unittest.TestCase):
    def test_the_worked_list(self):
        self.assertEqual(run(load(WORKED), NEEDLESS)[1], [1, 1])

    def test_without_patterns(self):
        self.assertEqual(needless(["ab"], []), [0])
        self.assertEqual(needless([], []), [0])

    def test_without_words_all_are(self):
        self.assertEqual(needless([], ["a1b", "b1", ".c1"]), [3, 0, 1, 2])
        patterns = ["1" + chr(97 + n // 26) + chr(97 + n % 26) for n in range(40)]
        self.assertEqual(needless([], patterns), [40] + list(range(40)))

    def test_none_is(self):
        self.assertEqual(needless(["abc"], ["a1b", "b1c"]), [0])

    def test_one_that_fits_nowhere(self):
        self.assertEqual(needless(["abc"], ["x1", "a1b", "y1"]), [2, 0, 2])

    def test_one_that_fits_and_has_no_odd_level(self):
        self.assertEqual(needless(["abc"], ["a2b", "b1c"]), [1, 0])

    def test_one_that_is_hidden(self):
        self.assertEqual(needless(["abc"], ["a1b", "a2bc"]), [1, 0])
        self.assertEqual(needless(["abc"], ["a1b", "a3bc"]), [2, 0, 1])

    def test_one_that_hides_nothing_odd(self):
        self.assertEqual(needless(["abc"], ["a4b", "a2bc"]), [2, 0, 1])

    def test_one_that_hides_an_odd_one(self):
        self.assertEqual(needless(["abc"], ["a4b", "a3bc"]), [1, 1])

    def test_each_dropped_alone(self):
        # either one may go, but not both of them
        self.assertEqual(needless(["ab"], ["a1b", "1b"]), [2, 0, 1])
        self.assertEqual(run(load(form(1, 1, ["ab"], ["a1b", "1b"])), drop(PATTERN, 0), NEEDLESS)[2], [0])

    def test_one_word_that_is_touched_is_enough(self):
        self.assertEqual(needless(["ab", "xabx", "abx"], ["a1b", ".a1b", "a1b."]), [2, 1, 2])
        self.assertEqual(needless(["ab", "abx"], ["a1b", ".a1b", "a1b."]), [3, 0, 1, 2])

    def test_as_many_gaps_but_others_are_touched(self):
        self.assertEqual(needless(["abc"], ["a1b2c", "b1c."]), [1, 1])

    def test_digits_outside_the_margins(self):
        self.assertEqual(needless(["abcd"], ["a1b", "b1c", "c1d"], 2, 2), [2, 0, 2])
        self.assertEqual(needless(["abcd"], ["a1b", "b1c", "c1d"], 2, 1), [1, 0])
        self.assertEqual(needless(["abcd"], ["a1b", "b1c", "c1d"], 5, 0), [3, 0, 1, 2])
        self.assertEqual(needless(["abcd"], ["a1b", "b1c", "c1d"], 0, 0), [0])

    def test_digits_before_the_first_letter_and_behind_the_last(self):
        self.assertEqual(needless(["ab"], [".1a", "b1.", "1ab1"], 0, 0), [3, 0, 1, 2])

    def test_where_a_word_may_be_parted_does_not_matter(self):
        for word in ("abc", "a-bc", "ab-c", "a-b-c"):
            self.assertEqual(needless([word], ["a1b", "c1", "b1c"]), [1, 1])

    def test_behind_changes(self):
        told = run(load(form(1, 1, ["ab"], ["a1b", "1b"])), NEEDLESS, put("pattern 1b ;"), NEEDLESS,
                   put("pattern 2b ;"), NEEDLESS, put("word bb ;"), NEEDLESS)
        self.assertEqual(told[1::2], [[2, 0, 1], [2, 0, 1], [1, 0], [1, 0]])

    def test_it_changes_nothing(self):
        told = run(load(WORKED), SHOWN, NEEDLESS, SHOWN, NEEDLESS)
        self.assertEqual(told[1:3], told[3:])

    def test_without_a_list(self):
        self.assertEqual(run(NEEDLESS, NEEDLESS), [[-1], [-1]])

    def test_many_lists(self):
        chance = Chance(67)
        some = 0
        for turn in range(100):
            desk = chance.desk(24 if turn % 3 == 0 else 3, 40 if turn % 2 else 10)
            told = run(load(desk.form()), NEEDLESS)[1]
            self.assertEqual(told, desk.needless())
            some += 0 < told[0] < len(desk.patterns)
        self.assertGreater(some, 30)


if __name__ == "__main__":
    unittest.main()
