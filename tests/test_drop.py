"""drop: words and patterns that are dropped, the words that this touches, and the refusals."""

import unittest

from helper import (
    FARTHEST, MARGINS, PATTERN, SHOWN, WORD, WORKED, Chance, drop, form, load, put, report, run, shown_text,
)

WORDS = [chr(97 + n) + "z" for n in range(24)]
PATTERNS = ["1" + chr(97 + n // 26) + chr(97 + n % 26) for n in range(40)]


class DropCase(unittest.TestCase):
    def becomes(self, before, kind, number, answer, after):
        """To drop this from the list of before is answered so, and the list is as told then."""
        told = run(load(before), drop(kind, number), SHOWN)
        self.assertEqual(told[1], answer)
        self.assertEqual(shown_text(told[2]), after)

    def refused(self, before, kind, number, refusal):
        told = run(load(before), SHOWN, drop(kind, number), SHOWN, MARGINS)
        self.assertEqual(told[2], [refusal], (kind, number))
        self.assertEqual(told[3], told[1])
        self.assertEqual(told[4:], run(load(before), MARGINS)[1:])


class Words(DropCase):
    def test_those_behind_it_move_up(self):
        words = ["ta-ble", "ca-ble", "ab-le"]
        for number in range(3):
            rest = words[:number] + words[number + 1:]
            self.becomes(form(2, 3, words, ["a1b"]), WORD, number, [2, 1, 0], form(2, 3, rest, ["a1b"]))

    def test_the_only_word(self):
        self.becomes("margins 2 2 ; word ab ;", WORD, 0, [0, 0, 0], "margins 2 2 ;\n")

    def test_a_word_touches_none(self):
        # not itself either, though it is parted: it is no longer listed
        told = run(load(form(1, 1, ["a-b", "b-a", "ab-b"], ["1b", "1a"])), drop(WORD, 1), drop(WORD, 0), drop(WORD, 0))
        self.assertEqual(told[1:], [[2, 2, 0], [1, 2, 0], [0, 2, 0]])

    def test_the_next_word_has_its_number_then(self):
        told = run(load(form(0, 0, ["ab", "a-b-c"], ["a1b"])), drop(WORD, 0), report(0), report(1))
        self.assertEqual(told[1:], [[1, 1, 0], [0, 1, 0, 1, 1, 1, 0], [-2]])

    def test_one_of_24(self):
        for number in (0, 11, 23):
            rest = WORDS[:number] + WORDS[number + 1:]
            self.becomes(form(2, 2, WORDS, PATTERNS), WORD, number, [23, 40, 0], form(2, 2, rest, PATTERNS))

    def test_then_there_is_room_for_another(self):
        told = run(load(form(2, 2, WORDS, [])), put("word xx ;"), drop(WORD, 5), put("word fz ;"), SHOWN)
        self.assertEqual(told[1:4], [[-5], [23, 0, 0], [24, 0, 0]])
        self.assertEqual(shown_text(told[4]), form(2, 2, WORDS[:5] + WORDS[6:] + ["fz"], []))


class Patterns(DropCase):
    def test_the_worked_one(self):
        told = run(load(WORKED), put("pattern e1a ;"), put("word a-ble ;"), drop(PATTERN, 2))
        self.assertEqual(told[3], [3, 3, 1, 2])

    def test_those_behind_it_move_up(self):
        patterns = ["a1b", "ab2l", ".ab3"]
        for number in range(3):
            rest = patterns[:number] + patterns[number + 1:]
            self.becomes(form(3, 2, ["xy"], patterns), PATTERN, number, [1, 2, 0], form(3, 2, ["xy"], rest))

    def test_the_only_pattern(self):
        self.becomes("margins 2 2 ; pattern a1 ;", PATTERN, 0, [0, 0, 0], "margins 2 2 ;\n")

    def test_the_words_touched_in_order(self):
        before = form(1, 1, ["abx", "xx", "xab", "ba", "ab"], ["b9", ".a2b", "a1b", ".abx4"])
        told = run(load(before), drop(PATTERN, 2), put("pattern a1b ;"), drop(PATTERN, 1), drop(PATTERN, 2))
        self.assertEqual(told[1:], [[5, 3, 1, 2], [5, 4, 1, 2], [5, 3, 2, 0, 4], [5, 2, 3, 0, 2, 4]])

    def test_a_level_that_stays_odd_or_even_touches_none(self):
        words = ["abcd"]
        self.becomes(form(1, 1, words, ["b1c", "b3cd"]), PATTERN, 1, [1, 1, 0], form(1, 1, words, ["b1c"]))
        self.becomes(form(1, 1, words, ["b2c"]), PATTERN, 0, [1, 0, 0], form(1, 1, words, []))
        self.becomes(form(1, 1, words, ["b2c", "b4cd"]), PATTERN, 0, [1, 1, 0], form(1, 1, words, ["b4cd"]))

    def test_what_it_hid_is_parted_then(self):
        self.becomes(form(1, 1, ["abcd"], ["b2c", "b1cd"]), PATTERN, 0, [1, 1, 1, 0], form(1, 1, ["abcd"], ["b1cd"]))

    def test_as_many_gaps_but_others(self):
        told = run(load(form(1, 1, ["abc"], ["a1b2c", "b1c."])), drop(PATTERN, 0))
        self.assertEqual(told[1], [1, 1, 1, 0])

    def test_what_is_outside_the_margins_touches_none(self):
        told = run(load(form(2, 0, ["abc", "xab"], ["a1b"])), drop(PATTERN, 0))
        self.assertEqual(told[1], [2, 0, 1, 1])
        told = run(load(form(0, 2, ["abc", "xab"], ["a1b"])), drop(PATTERN, 0))
        self.assertEqual(told[1], [2, 0, 1, 0])

    def test_where_it_may_be_parted_does_not_matter(self):
        told = run(load(form(1, 1, ["a-b", "abc", "a-bd"], ["1b"])), drop(PATTERN, 0))
        self.assertEqual(told[1], [3, 0, 3, 0, 1, 2])

    def test_all_24_words_touched(self):
        told = run(load(form(1, 1, WORDS, ["1z"])), drop(PATTERN, 0))
        self.assertEqual(told[1], [24, 0, 24] + list(range(24)))

    def test_one_of_40(self):
        for number in (0, 17, 39):
            rest = PATTERNS[:number] + PATTERNS[number + 1:]
            self.becomes(form(0, 0, ["xy"], PATTERNS), PATTERN, number, [1, 39, 0], form(0, 0, ["xy"], rest))

    def test_then_there_is_room_for_another(self):
        told = run(load(form(2, 2, [], PATTERNS)), put("pattern zz1 ;"), drop(PATTERN, 39), put("pattern zz1 ;"), SHOWN)
        self.assertEqual(told[1:4], [[-5], [0, 39, 0], [0, 40, 0]])
        self.assertEqual(shown_text(told[4]), form(2, 2, [], PATTERNS[:39] + ["zz1"]))


class Refusals(DropCase):
    def test_k_that_is_neither_0_nor_1(self):
        for kind in (2, 3, -1, -2, FARTHEST, -FARTHEST):
            self.refused(WORKED, kind, 0, -4)

    def test_numbers_that_none_has(self):
        some = form(2, 2, ["ab", "cd"], ["a1b", "b1", "c1"])
        for number in (2, 3, 24, FARTHEST, -1, -2, -FARTHEST):
            self.refused(some, WORD, number, -2)
        for number in (3, 4, 40, FARTHEST, -1, -3, -FARTHEST):
            self.refused(some, PATTERN, number, -2)

    def test_where_there_are_none(self):
        self.refused("margins 2 2 ; pattern a1 ;", WORD, 0, -2)
        self.refused("margins 2 2 ; word ab ;", PATTERN, 0, -2)

    def test_behind_the_last_of_the_most(self):
        full = form(2, 2, WORDS, PATTERNS)
        self.refused(full, WORD, 24, -2)
        self.refused(full, PATTERN, 40, -2)

    def test_k_comes_before_the_number(self):
        for kind in (2, -1, FARTHEST, -FARTHEST):
            for number in (-1, 3, FARTHEST, -FARTHEST):
                self.refused(WORKED, kind, number, -4)

    def test_no_list_comes_before_all_else(self):
        for kind in (0, 1, 2, -1, FARTHEST, -FARTHEST):
            for number in (0, -1, FARTHEST, -FARTHEST):
                self.assertEqual(run(drop(kind, number), SHOWN), [[-1], [-1]])


class ManyDrops(unittest.TestCase):
    def test_many_lists(self):
        chance = Chance(61)
        touched = 0
        for turn in range(100):
            desk = chance.desk(24 if turn % 2 else 6, 40 if turn % 3 else 6)
            calls = [load(desk.form())]
            expected = [[1, len(desk.words), len(desk.patterns)]]
            for _ in range(8):
                kind = 2 if chance.below(12) == 0 else min(1, chance.below(4))
                number = chance.below((len(desk.words), len(desk.patterns))[kind == 1] + 1)
                calls.append(drop(kind, number))
                expected.append(desk.drop(kind, number))
                touched += expected[-1][2:3] not in ([], [0])
            self.assertEqual(run(*calls, SHOWN), expected + [desk.shown()])
        self.assertGreater(touched, 30)


if __name__ == "__main__":
    unittest.main()
