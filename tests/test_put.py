"""put: items that are new or take another's place, the words they touch, and the refusals."""

import unittest

from helper import MARGINS, SHOWN, WORKED, Chance, as_bytes, form, load, put, report, run, shown_text

WORDS = [chr(97 + n) + "z" for n in range(24)]
PATTERNS = ["1" + chr(97 + n // 26) + chr(97 + n % 26) for n in range(40)]


class PutCase(unittest.TestCase):
    def becomes(self, before, item, answer, after):
        """Put into the list of before, the item is answered so, and the list is as told then."""
        told = run(load(before), put(item), SHOWN)
        self.assertEqual(told[1], answer)
        self.assertEqual(shown_text(told[2]), after)

    def refused(self, before, item, number):
        told = run(load(before), SHOWN, put(item), SHOWN)
        self.assertEqual(told[2], [number], item)
        self.assertEqual(told[3], told[1])


class Words(PutCase):
    def test_a_new_word_comes_behind_all_others(self):
        before = form(2, 2, ["ta-ble", "ca-ble"], ["a1b"])
        self.becomes(before, "word ab-le ;", [3, 1, 0], form(2, 2, ["ta-ble", "ca-ble", "ab-le"], ["a1b"]))

    def test_the_first_word(self):
        self.becomes("margins 2 2 ;", "word ab ;", [1, 0, 0], form(2, 2, ["ab"], []))

    def test_the_same_letters_take_the_others_place(self):
        before = form(2, 2, ["ta-ble", "ca-ble", "ab-le"], ["a1b"])
        self.becomes(before, "word c-ab-le ;", [3, 1, 0], form(2, 2, ["ta-ble", "c-ab-le", "ab-le"], ["a1b"]))
        self.becomes(before, "word table ;", [3, 1, 0], form(2, 2, ["table", "ca-ble", "ab-le"], ["a1b"]))
        self.becomes(before, "word ab-le ;", [3, 1, 0], before)

    def test_a_word_touches_none(self):
        told = run(load(WORKED), put("word a-ble ;"), put("word tab-le ;"), put("word a-bl ;"))
        self.assertEqual(told[1:], [[3, 3, 0], [3, 3, 0], [4, 3, 0]])

    def test_the_worked_report_behind_it(self):
        told = run(load(WORKED), put("pattern e1a ;"), put("word a-ble ;"), report(2))
        self.assertEqual(told[1:], [[3, 4, 0], [3, 4, 0], [0, 0, 1, 0, 3, 3, 0, 1, 2]])

    def test_up_to_24(self):
        self.becomes(form(2, 2, WORDS[:23], []), "word xx ;", [24, 0, 0], form(2, 2, WORDS[:23] + ["xx"], []))

    def test_the_letters_of_a_pattern_do_not_matter(self):
        self.becomes(form(2, 2, [], ["ab1"]), "word ab ;", [1, 1, 0], form(2, 2, ["ab"], ["ab1"]))


class Patterns(PutCase):
    def test_a_new_pattern_comes_behind_all_others(self):
        before = form(2, 2, ["ta-ble"], ["z1", "a1b"])
        self.becomes(before, "pattern b1l ;", [1, 3, 1, 0], form(2, 2, ["ta-ble"], ["z1", "a1b", "b1l"]))

    def test_the_first_pattern(self):
        self.becomes("margins 2 2 ;", "pattern .a1. ;", [0, 1, 0], form(2, 2, [], [".a1."]))

    def test_the_same_letters_and_points_take_the_others_place(self):
        patterns = ["a1b", ".ab1", "ab1.", ".a1b."]
        for number, chunk in enumerate(("2ab", ".a3b", "4ab.", ".ab5.")):
            after = patterns[:number] + [chunk] + patterns[number + 1:]
            told = run(load(form(2, 2, ["xy"], patterns)), put(f"pattern {chunk} ;"), SHOWN)
            self.assertEqual(told[1], [1, 4, 0])
            self.assertEqual(shown_text(told[2]), form(2, 2, ["xy"], after))

    def test_other_points_are_other_patterns(self):
        before = form(2, 2, [], ["a1b"])
        for chunk in (".a1b", "a1b.", ".a1b."):
            self.becomes(before, f"pattern {chunk} ;", [0, 2, 0], form(2, 2, [], ["a1b", chunk]))

    def test_the_words_touched_in_order(self):
        before = form(1, 1, ["abx", "xx", "xab", "ba", "ab"], [])
        told = run(load(before), put("pattern a1b ;"), put("pattern .a2b ;"), put("pattern a2b ;"))
        self.assertEqual(told[1:], [[5, 1, 3, 0, 2, 4], [5, 2, 2, 0, 4], [5, 2, 1, 2]])

    def test_a_fit_that_parts_nothing_otherwise_touches_none(self):
        before = form(2, 2, ["abcd"], ["b1c", "a2b"])
        for chunk in ("b1cd", "2b", "1a", "d1", "a1b", "a3bc", "c1d", "b3c", "x1", "b2cx"):
            told = run(load(before), put(f"pattern {chunk} ;"))
            self.assertEqual(told[1][2:], [0], chunk)

    def test_levels_that_part_otherwise_touch(self):
        before = form(2, 2, ["abcd"], ["b1c", "a2b"])
        for chunk in ("b2cd", "b2c", "bc1", "b4cd", "2c"):
            told = run(load(before), put(f"pattern {chunk} ;"))
            self.assertEqual(told[1][2:], [1, 0], chunk)

    def test_parted_otherwise_but_with_as_many_gaps(self):
        told = run(load(form(1, 1, ["abc"], ["a1bc"])), put("pattern ab1c ;"))
        self.assertEqual(told[1], [1, 1, 1, 0])

    def test_where_it_may_be_parted_does_not_matter(self):
        told = run(load(form(1, 1, ["a-b", "ab-c"], [])), put("pattern a1b ;"))
        self.assertEqual(told[1], [2, 1, 2, 0, 1])

    def test_what_is_outside_the_margins_touches_none(self):
        told = run(load(form(2, 0, ["abc", "xab"], [])), put("pattern a1b ;"))
        self.assertEqual(told[1], [2, 1, 1, 1])
        told = run(load(form(0, 2, ["abc", "xab"], [])), put("pattern a1b ;"))
        self.assertEqual(told[1], [2, 1, 1, 0])

    def test_all_24_words_touched(self):
        told = run(load(form(1, 1, WORDS, [])), put("pattern 1z ;"))
        self.assertEqual(told[1], [24, 1, 24] + list(range(24)))

    def test_up_to_40(self):
        before = form(2, 2, [], PATTERNS[:39])
        self.becomes(before, "pattern zz1 ;", [0, 40, 0], form(2, 2, [], PATTERNS[:39] + ["zz1"]))

    def test_the_worked_pattern(self):
        self.assertEqual(run(load(WORKED), put("pattern e1a ;"))[1], [3, 4, 0])


class ItemTexts(PutCase):
    def test_blanks_and_remarks(self):
        for item in ("word ab;", "#\nword#x\nab#;\n;#", "\t\n word\tab\n;\n", "word ab ;" + " " * 4087):
            self.becomes("margins 2 2 ;", item, [1, 0, 0], form(2, 2, ["ab"], []))
        for item in ("pattern a1;", "#pattern b1 ;\npattern a1;", "pattern\na1\n;#"):
            self.becomes("margins 2 2 ;", item, [0, 1, 0], form(2, 2, [], ["a1"]))

    def test_keywords_as_words(self):
        for word in ("word", "pattern", "margins"):
            self.becomes("margins 2 2 ;", f"word {word} ;", [1, 0, 0], form(2, 2, [word], []))

    def test_4096_bytes_and_one_more(self):
        for filling in (" ", "#"):
            item = "word ab ;" + filling * (4096 - 9)
            self.becomes("margins 2 2 ;", item, [1, 0, 0], form(2, 2, ["ab"], []))
            self.refused("margins 2 2 ;", item + filling, -4)
        self.refused("margins 2 2 ;", " " * 8192, -4)

    def test_not_just_an_item(self):
        for item in (
            "", " ", "# word ab ;", ";", "word", "word ;", "word ab", "word ab ; ;", "ab ;", "words ab ;",
            "word ab ; word cd ;", "word ab ; pattern a1 ;", "pattern a1 ; word ab ;", "pattern a1 ; pattern b1 ;",
            "pattern", "pattern ;", "pattern a1", "pattern a1 ; #\n x", "a1 ;", "Word ab ;", "word ab cd ;",
            "margins 2 2 ;", "margins 2 2 ; word ab ;", "word ab ; margins 2 2 ;", "wordab ;", "word ab ; A",
            "word ab , ", "; word ab ;",
        ):
            self.refused(WORKED, item, -4)

    def test_chunks_not_as_told(self):
        for chunk in ("a", "a" * 17, "-ab", "ab-", "a--b", "a1b", "ab.", "a" * 41):
            self.refused(WORKED, f"word {chunk} ;", -4)
        for chunk in ("a", "1", ".", "..", "a0b", "a11b", "a.1b", "..a1", "a1..", "abcdefg1", "a-1b", "a" * 41):
            self.refused(WORKED, f"pattern {chunk} ;", -4)

    def test_every_byte_that_begins_no_token(self):
        signs = "abcdefghijklmnopqrstuvwxyz0123456789-.;# \t\n"
        for byte in range(256):
            if chr(byte) not in signs:
                self.refused(WORKED, as_bytes("word ab ;") + [byte], -4)


class TooMany(PutCase):
    def test_a_twenty_fifth_word(self):
        self.refused(form(2, 2, WORDS, ["a1"]), "word xx ;", -5)

    def test_a_forty_first_pattern(self):
        self.refused(form(2, 2, ["ab"], PATTERNS), "pattern zz1 ;", -5)
        self.refused(form(2, 2, ["ab"], PATTERNS), "pattern .1aa ;", -5)

    def test_one_that_takes_anothers_place_is_none_more(self):
        words = list(WORDS)
        words[23] = "x-z"
        self.becomes(form(2, 2, WORDS, ["a1"]), "word x-z ;", [24, 1, 0], form(2, 2, words, ["a1"]))
        patterns = list(PATTERNS)
        patterns[39] = "b9n"
        self.becomes(form(2, 2, ["ab"], PATTERNS), "pattern b9n ;", [1, 40, 0], form(2, 2, ["ab"], patterns))

    def test_many_of_the_other_kind_do_not_matter(self):
        self.becomes(form(2, 2, WORDS, []), "pattern a1 ;", [24, 1, 0], form(2, 2, WORDS, ["a1"]))
        self.becomes(form(2, 2, [], PATTERNS), "word ab ;", [1, 40, 0], form(2, 2, ["ab"], PATTERNS))


class Order(PutCase):
    def test_not_right_comes_before_too_many(self):
        full = form(2, 2, WORDS, PATTERNS)
        self.refused(full, "word x ;", -4)
        self.refused(full, "word xx", -4)
        self.refused(full, "pattern zz ;", -4)
        self.refused(full, "word xx ; " + " " * 4096, -4)

    def test_no_list_comes_before_all_else(self):
        for item in ("", "word ab ;", "pattern a1 ;", "word a ;", " " * 8192):
            self.assertEqual(run(put(item)), [[-1]])
        self.assertEqual(run(put("word ab ;"), SHOWN), [[-1], [-1]])

    def test_a_refusal_changes_nothing(self):
        full = form(2, 2, WORDS, PATTERNS)
        told = run(load(full), MARGINS, report(3), put("word xx ;"), put("pattern zz1 ;"), put("x"), MARGINS, report(3))
        self.assertEqual(told[3:6], [[-5], [-5], [-4]])
        self.assertEqual(told[6:], told[1:3])


class ManyPuts(unittest.TestCase):
    def test_many_lists(self):
        chance = Chance(31)
        for turn in range(60):
            desk = chance.desk(24 if turn % 2 else 6, 40 if turn % 3 else 6)
            calls = [load(desk.form())]
            expected = [[1, len(desk.words), len(desk.patterns)]]
            for _ in range(9):
                name = "word" if chance.below(3) == 0 else "pattern"
                chunk = chance.word() if name == "word" else chance.pattern()
                calls.append(put(f"{name} {chunk} ;"))
                expected.append(desk.put(name, chunk))
            self.assertEqual(run(*calls), expected)


if __name__ == "__main__":
    unittest.main()
