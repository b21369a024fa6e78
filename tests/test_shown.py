"""shown: the bytes of a list's one form."""

import unittest

from helper import SHOWN, WORKED, Chance, as_bytes, form, load, put, run, shown_text


class Shown(unittest.TestCase):
    def test_the_bytes(self):
        told = run(load("margins 2 3;word ta-ble;pattern .1a2b3.;"), SHOWN)
        expected = "margins 2 3 ;\nword ta-ble ;\npattern .1a2b3. ;\n"
        self.assertEqual(told[1], [len(expected)] + as_bytes(expected))

    def test_the_count_and_each_byte_of_a_short_one(self):
        told = run(load("margins 0 5 ;"), SHOWN)
        self.assertEqual(told[1], [14, 109, 97, 114, 103, 105, 110, 115, 32, 48, 32, 53, 32, 59, 10])

    def test_without_words_or_patterns(self):
        self.assertEqual(shown_text(run(load("margins 5 0;word ab;"), SHOWN)[1]), "margins 5 0 ;\nword ab ;\n")
        self.assertEqual(shown_text(run(load("margins 5 0;pattern a9;"), SHOWN)[1]), "margins 5 0 ;\npattern a9 ;\n")

    def test_the_order_told_is_kept(self):
        words = ["zz", "a-a", "mm"]
        patterns = ["z1", "a1.", ".a1", "m1"]
        told = run(load(form(1, 2, words, patterns)), SHOWN)
        self.assertEqual(shown_text(told[1]), form(1, 2, words, patterns))

    def test_blanks_and_remarks_are_gone(self):
        told = run(load("#x\nmargins\t2\n2#;\n;word# word\nab;#"), SHOWN)
        self.assertEqual(shown_text(told[1]), form(2, 2, ["ab"], []))

    def test_the_longest_words_and_patterns(self):
        words = ["-".join("abcdefghijklmno" + chr(97 + n)) for n in range(24)]
        patterns = [f".1a2b3c4d{n // 26 + 5}{chr(97 + n % 26)}6{chr(97 + n // 26)}7." for n in range(40)]
        told = run(load(form(5, 5, words, patterns)), SHOWN)
        self.assertEqual(told[0], [1, 24, 40])
        self.assertEqual(shown_text(told[1]), form(5, 5, words, patterns))

    def test_asked_twice_it_is_the_same(self):
        told = run(load(WORKED), SHOWN, SHOWN)
        self.assertEqual(told[1], told[2])

    def test_what_is_shown_is_shown_again_the_same(self):
        chance = Chance(7)
        for _ in range(40):
            text = chance.desk().form()
            told = run(load("#\n\t" + text.replace(" ;", ";#;\n")), SHOWN)
            self.assertEqual(shown_text(told[1]), text)
            again = run(load(shown_text(told[1])), SHOWN)
            self.assertEqual(again, told)

    def test_behind_a_change(self):
        told = run(load("margins 2 2 ; word ab ;"), put("word#\na-b;"), SHOWN)
        self.assertEqual(shown_text(told[2]), form(2, 2, ["a-b"], []))

    def test_without_a_list(self):
        self.assertEqual(run(SHOWN), [[-1]])


if __name__ == "__main__":
    unittest.main()
