"""slim: patterns dropped from the first one on, and again from the first one on, till none is."""

import unittest

from helper import (
    MARGINS, NEEDLESS, SHOWN, SLIM, WORKED, Chance, PlainDesk, form, load, put, report, run, shown_text,
)


class SlimCase(unittest.TestCase):
    def becomes(self, words, patterns, left_over, left=1, right=1):
        """Made slim, the list has these patterns left."""
        told = run(load(form(left, right, words, patterns)), SLIM, SHOWN)
        self.assertEqual(told[1], [len(left_over), len(patterns) - len(left_over)])
        self.assertEqual(shown_text(told[2]), form(left, right, words, left_over))


class Slim(SlimCase):
    def test_the_worked_list(self):
        told = run(load(WORKED), SLIM, SHOWN, NEEDLESS)
        self.assertEqual(told[1], [2, 1])
        self.assertEqual(shown_text(told[2]), form(2, 2, ["ta-ble", "ca-ble", "ab-le"], ["a1b", ".ab3"]))
        self.assertEqual(told[3], [0])

    def test_without_patterns(self):
        self.becomes(["ab"], [], [])
        self.becomes([], [], [])

    def test_without_words_all_are_dropped(self):
        self.becomes([], ["a1b", "b1", ".c1"], [])
        self.becomes([], ["1" + chr(97 + n // 26) + chr(97 + n % 26) for n in range(40)], [])

    def test_what_is_slim_stays(self):
        self.becomes(["abc"], ["a1b", "b1c"], ["a1b", "b1c"])

    def test_the_first_goes_where_either_could(self):
        self.becomes(["ab"], ["a1b", "1b"], ["1b"])
        self.becomes(["ab"], ["1b", "a1b"], ["a1b"])
        self.becomes(["ab"], ["1b", "a1b", "b9.", "a3"], ["a3"])

    def test_with_all_that_were_dropped_before_it(self):
        # each is needless alone, but all three together are not
        self.becomes(["ab", "ba"], ["a1b", "1b", "a1", "b1a", ".b1"], ["a1", ".b1"])

    def test_as_it_was_at_first(self):
        # not parted at first, it may not be in between either
        self.becomes(["abc"], ["a1b", "a2bc", "a1"], [])
        self.becomes(["abc"], ["a3b", "a2bc", "a1"], ["a3b"])
        self.becomes(["abc"], ["a2bc", "a3b", "a1"], ["a1"])

    def test_those_left_stand_in_order(self):
        words = ["abcdefgh"]
        patterns = ["h1", "g1h", "x1", "a1b", "1a", "d1e", "e2f", "c1d"]
        self.becomes(words, patterns, ["g1h", "a1b", "d1e", "c1d"])

    def test_again_from_the_first_one_on(self):
        # the first has to hide the second till that is dropped, too
        self.becomes(["abc"], ["a2b", "a1bc"], [])
        told = run(load(form(1, 1, ["abc", "xyz"], ["x1y", "a2b", "a1bc"])), SLIM, SHOWN)
        self.assertEqual(told[1], [1, 2])
        self.assertEqual(shown_text(told[2]), form(1, 1, ["abc", "xyz"], ["x1y"]))

    def test_and_again_till_none_is_dropped(self):
        letters = "abcdefghijklmnop"
        chain = [letters[n] + "1" + letters[n + 1] + "2" + letters[n + 2] for n in range(14)]
        # each hides the next one's odd digit: time by time one goes, the last one first
        self.becomes([letters], chain, chain[:1])
        self.becomes([letters], ["a2b"] + chain, [])

    def test_digits_outside_the_margins(self):
        self.becomes(["abcd"], ["a1b", "b1c", "c1d"], ["b1c"], 2, 2)
        self.becomes(["abcd"], ["a1b", "b1c", "c1d"], [], 5, 0)
        self.becomes(["abcd"], ["a1b", "b1c", "c1d"], ["a1b", "b1c", "c1d"], 0, 0)

    def test_where_a_word_may_be_parted_does_not_matter(self):
        for word in ("abc", "a-bc", "ab-c", "a-b-c"):
            self.becomes([word], ["a1b", "c1", "b1c"], ["a1b", "b1c"])

    def test_24_words_and_40_patterns(self):
        words = [chr(97 + n) + "z" for n in range(24)]
        patterns = [chr(97 + n) + "1z" for n in range(24)] + [".1" + chr(97 + n) for n in range(16)]
        self.becomes(words, patterns, patterns[:24])
        self.becomes(words, patterns[:39] + ["1z"], ["1z"])

    def test_what_is_left_is_held(self):
        before = form(1, 1, ["a-b"], ["x1", "1b", "a1b"])
        told = run(load(before), report(0), SLIM, report(0), SLIM, put("pattern y1 ;"))
        self.assertEqual(told[1:], [
            [1, 1, 0, 0, 1, 2, 1, 2], [1, 2], [1, 1, 0, 0, 1, 1, 0], [1, 0], [1, 2, 0],
        ])

    def test_without_a_list(self):
        self.assertEqual(run(SLIM, SLIM), [[-1], [-1]])

    def test_many_lists(self):
        chance = Chance(71)
        again = 0
        for turn in range(240):
            desk = chance.desk(24 if turn % 3 == 0 else 3, 40 if turn % 2 else 10)
            told = run(load(desk.form()), SLIM, SHOWN, MARGINS, NEEDLESS, SLIM)
            once = PlainDesk(desk.left, desk.right, desk.words, desk.patterns)
            once.slim_once(once.parted())
            slim = desk.slim()
            again += len(once.patterns) > len(desk.patterns)
            self.assertEqual(told[1:], [slim, desk.shown(), desk.margins(), [0], [slim[0], 0]])
        self.assertGreater(again, 3)


if __name__ == "__main__":
    unittest.main()
