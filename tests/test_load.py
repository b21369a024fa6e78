"""load: texts that are lists, and each fault with its code and its place."""

import unittest

from helper import SHOWN, WORKED, as_bytes, form, load, run, shown_text

SIMPLE = "margins 2 3 ; word ta-ble ; pattern a1b ;"


def word_lines(count):
    """So many words with letters of their own."""
    letters = "abcdefghijklmnopqrstuvwxyz"
    return [f"word {letters[n]}{letters[n]} ;" for n in range(count)]


def pattern_lines(count):
    """So many patterns with letters of their own."""
    letters = "abcdefghijklmnopqrstuvwxyz"
    return [f"pattern 1{letters[n // 26]}{letters[n % 26]} ;" for n in range(count)]


class LoadCase(unittest.TestCase):
    def right(self, text, words, patterns):
        self.assertEqual(run(load(text)), [[1, words, patterns]], text)

    def fault(self, text, code, place):
        self.assertEqual(run(load(text)), [[0, code, place]], text)

    def fault_at(self, text, code):
        """The fault stands where the text has a !, which is taken out."""
        self.assertEqual(text.count("!"), 1)
        self.fault(text.replace("!", ""), code, text.index("!"))

    def word_right(self, chunk):
        self.right(f"margins 2 2 ; word {chunk} ;", 1, 0)

    def word_wrong(self, chunk):
        self.fault_at(f"margins 2 2 ; word !{chunk} ;", 7)

    def pattern_right(self, chunk):
        self.right(f"margins 2 2 ; pattern {chunk} ;", 0, 1)

    def pattern_wrong(self, chunk):
        self.fault_at(f"margins 2 2 ; pattern !{chunk} ;", 7)


class RightLists(LoadCase):
    def test_the_worked_list(self):
        self.right(WORKED, 3, 3)

    def test_neither_words_nor_patterns(self):
        self.right("margins 0 5 ;", 0, 0)

    def test_words_alone_and_patterns_alone(self):
        self.right("margins 1 1 ; word ab ; word ba ;", 2, 0)
        self.right("margins 1 1 ; pattern a1 ; pattern 1b ;", 0, 2)

    def test_a_second_list_takes_the_place_of_the_first(self):
        told = run(load(WORKED), load(SIMPLE), SHOWN)
        self.assertEqual(told[1], [1, 1, 1])
        self.assertEqual(shown_text(told[2]), form(2, 3, ["ta-ble"], ["a1b"]))

    def test_keywords_may_be_words(self):
        self.right("margins 2 2 ; word margins ; word word ; word pattern ;", 3, 0)


class BlanksAndRemarks(LoadCase):
    TOKENS = ["margins", "2", "3", ";", "word", "ta-ble", ";", "pattern", "a1b", ";"]

    def test_all_kinds_at_every_place(self):
        for filling in (" ", "\t", "\n", " \t\n ", "#\n", "# word ; ; #\n", "#x\n#y\n \t", "#\t \r\x00\xff\n"):
            for place in range(len(self.TOKENS) + 1):
                ahead = " ".join(self.TOKENS[:place])
                behind = " ".join(self.TOKENS[place:])
                told = run(load(ahead + filling + behind), SHOWN)
                self.assertEqual(told[0], [1, 1, 1], (filling, place))
                self.assertEqual(shown_text(told[1]), form(2, 3, ["ta-ble"], ["a1b"]))

    def test_no_blanks_where_a_semicolon_parts(self):
        self.right("margins 2 3;word ta-ble;pattern a1b;", 1, 1)

    def test_a_remark_parts_two_chunks(self):
        self.right("margins#\n2#\n3;", 0, 0)

    def test_a_remark_ends_at_the_texts_end(self):
        self.right(SIMPLE + "# no row's end", 1, 1)
        self.right(SIMPLE + "#", 1, 1)

    def test_what_a_remark_hides_is_not_there(self):
        text = "margins 2 3 # ;"
        self.fault(text, 3, len(text))

    def test_chunks_without_a_blank_are_one(self):
        self.fault_at("!margins2 3 ;", 3)
        self.fault_at("margins 2 3 ; !wordta-ble ;", 3)
        self.fault_at("margins !23 ;", 7)

    def test_other_blanks_are_none(self):
        for byte in (0, 11, 12, 13, 31, 127, 133, 160, 255):
            text = as_bytes("margins 2 3 ;") + [byte] + as_bytes(" word ab ;")
            self.fault(text, 2, 13)


class TooLong(LoadCase):
    def test_4096_bytes_and_one_more(self):
        for filling in (" ", "#"):
            fitting = SIMPLE + filling * (4096 - len(SIMPLE))
            self.right(fitting, 1, 1)
            self.fault(fitting + filling, 1, 4096)

    def test_comes_before_all_else(self):
        self.fault("A" * 4097, 1, 4096)
        self.fault("A" * 4096, 2, 0)
        self.fault(";" * 8192, 1, 4096)
        self.fault("#" * 4096, 3, 4096)


class NoToken(LoadCase):
    def test_every_byte_that_begins_no_token(self):
        signs = "abcdefghijklmnopqrstuvwxyz0123456789-.;# \t\n"
        for byte in range(256):
            if chr(byte) not in signs:
                self.fault(as_bytes(SIMPLE) + [byte], 2, len(SIMPLE))

    def test_place_within_a_text(self):
        self.fault_at("margins 2 3 ; word ta!_ble ;", 2)
        self.fault_at("margins 2 3 ; word !Table ;", 2)
        self.fault_at("margins 2 3 !, word table ;", 2)

    def test_the_longest_chunk_and_one_byte_more(self):
        self.fault_at("!" + "a" * 40 + " 2 3 ;", 3)
        self.fault_at("!" + "a" * 41 + " 2 3 ;", 2)
        self.fault_at("margins 2 3 ; word !" + "a-" * 20 + " ;", 7)
        self.fault_at("margins 2 3 ; word !" + "a-" * 20 + "9 ;", 2)
        self.fault_at("margins 2 3 ; pattern !" + "." * 40 + " ;", 7)
        self.fault_at("margins 2 3 ; pattern !" + "1" * 4000, 2)

    def test_the_first_of_several(self):
        self.fault("margins 2 3 ; A " + "a" * 41, 2, 14)
        self.fault("margins 2 3 ; " + "a" * 41 + "A", 2, 14)

    def test_comes_before_what_stands_left_of_it(self):
        self.fault_at("; 9 x ; word a ; pattern 0 !*", 2)
        self.fault_at("margins 2 3 ; word ab ; word ab ; !?", 2)
        many = " ".join(word_lines(25))
        self.fault_at("margins 2 3 ; " + many + " !$", 2)

    def test_none_within_a_remark(self):
        self.right("margins 2 3 ; # A" + "a" * 50 + "\n", 0, 0)


class WrongTokens(LoadCase):
    def test_a_text_without_tokens(self):
        self.fault("", 3, 0)
        self.fault(" \n\t", 3, 3)
        self.fault("# margins 2 2 ;", 3, 15)

    def test_the_end_at_each_place(self):
        tokens = BlanksAndRemarks.TOKENS
        for count in range(len(tokens)):
            text = " ".join(tokens[:count]) + " #\n"
            told = run(load(text))
            if count in (4, 7):
                self.assertEqual(told, [[1, 1 if count == 7 else 0, 0]])
            else:
                self.assertEqual(told, [[0, 3, len(text)]])

    def test_a_semicolon_at_each_place(self):
        tokens = BlanksAndRemarks.TOKENS
        for count in range(len(tokens) + 1):
            if count < len(tokens) and tokens[count] == ";":
                continue
            text = " ".join(tokens[:count] + ["!;"] + tokens[count:])
            self.fault_at(text, 3)

    def test_chunks_that_are_not_allowed(self):
        self.fault_at("!margin 2 3 ;", 3)
        self.fault_at("!word ab ;", 3)
        self.fault_at("!pattern a1 ;", 3)
        self.fault_at("margins 2 3 !4 ;", 3)
        self.fault_at("margins 2 3 !word ab ;", 3)
        self.fault_at("margins 2 3 ; !margins 2 3 ;", 3)
        self.fault_at("margins 2 3 ; !words ab ;", 3)
        self.fault_at("margins 2 3 ; word ab !cd ;", 3)
        self.fault_at("margins 2 3 ; pattern a1 !b1 ;", 3)
        self.fault_at("margins 2 3 ; pattern a1 ; !margins", 3)

    def test_a_word_behind_a_pattern(self):
        self.fault_at("margins 2 3 ; pattern a1 ; !word ab ;", 3)
        words = " ".join(word_lines(24))
        self.fault_at("margins 2 3 ; " + words + " pattern a1 ; !word ab ;", 3)
        patterns = " ".join(pattern_lines(40))
        self.fault_at("margins 2 3 ; " + words + patterns + " !word ab ;", 3)


class TooMany(LoadCase):
    def test_24_words_and_25(self):
        head = "margins 2 3 ; "
        self.right(head + " ".join(word_lines(24)), 24, 0)
        self.right(head + " ".join(word_lines(24)) + " pattern a1 ;", 24, 1)
        self.fault_at(head + " ".join(word_lines(24)) + " !word zz ;", 4)
        self.fault_at(head + " ".join(word_lines(24)) + " !word", 4)
        self.fault_at(head + " ".join(word_lines(24)) + " !word aa ; pattern a1 ;", 4)

    def test_40_patterns_and_41(self):
        head = "margins 2 3 ; word ab ; "
        self.right(head + " ".join(pattern_lines(40)), 1, 40)
        self.fault_at(head + " ".join(pattern_lines(40)) + " !pattern z1 ;", 4)
        self.fault_at(head + " ".join(pattern_lines(40)) + " !pattern", 4)
        self.fault_at(head + " ".join(pattern_lines(40)) + " !pattern aa1 ;", 4)

    def test_both_at_their_most(self):
        self.right("margins 2 3 ; " + " ".join(word_lines(24) + pattern_lines(40)), 24, 40)


class WrongMargins(LoadCase):
    def test_each_digit(self):
        for digit in "012345":
            told = run(load(f"margins {digit} 5 ;"), SHOWN, load(f"margins 0 {digit} ;"), SHOWN)
            self.assertEqual(told[0], [1, 0, 0])
            self.assertEqual(shown_text(told[1]), form(digit, 5, [], []))
            self.assertEqual(shown_text(told[3]), form(0, digit, [], []))

    def test_other_chunks(self):
        for chunk in ("6", "7", "8", "9", "00", "02", "10", "55", "-1", "2.", ".", "-", "a", "margins", "word"):
            self.fault_at(f"margins !{chunk} 2 ;", 7)
            self.fault_at(f"margins 2 !{chunk} ;", 7)
        self.fault_at("margins !pattern 2 ;", 7)

    def test_no_chunk(self):
        self.fault_at("margins !; 2 ;", 3)
        self.fault_at("margins 2 !;", 3)


class WrongWords(LoadCase):
    def test_2_and_16_letters(self):
        for chunk in ("ab", "a-b", "zz", "a" * 16, "-".join("a" * 16), "abcdefghijklmno-p"):
            self.word_right(chunk)

    def test_1_and_17_letters(self):
        for chunk in ("a", "a" * 17, "-".join("a" * 17), "a" * 40):
            self.word_wrong(chunk)

    def test_where_a_stroke_may_not_stand(self):
        for chunk in ("-ab", "ab-", "a--b", "-", "--", "-a", "a-", "-a-b-", "ab---ba"):
            self.word_wrong(chunk)

    def test_no_digits_and_points(self):
        for chunk in ("a1b", "ab.", ".ab", "a.b", "1", "ab1", "0ab", "."):
            self.word_wrong(chunk)

    def test_no_chunk(self):
        self.fault_at("margins 2 2 ; word !;", 3)
        self.fault_at("margins 2 2 ; word !", 3)


class WrongPatterns(LoadCase):
    def test_1_and_6_letters(self):
        for chunk in ("a1", "1a", "abcdef1", "1a2b3c4d5e6f7", ".1a2b3c4d5e6f7.", "9z", ".a1", "1a.", ".1a."):
            self.pattern_right(chunk)

    def test_0_and_7_letters(self):
        for chunk in ("1", ".", "..", ".1", "1.", ".1.", "12", "a1bcdefg", "1a2b3c4d5e6f7g", ".abcdefg1."):
            self.pattern_wrong(chunk)

    def test_each_digit(self):
        for digit in "123456789":
            self.pattern_right(f"a{digit}b")
            self.pattern_right(f".{digit}ab")
            self.pattern_right(f"ab{digit}.")
        for chunk in ("a0b", "0ab1", "1ab0", "a1b0", ".0a1"):
            self.pattern_wrong(chunk)

    def test_at_least_one_digit(self):
        for chunk in ("a", "ab", "abcdef", ".ab", "ab.", ".a."):
            self.pattern_wrong(chunk)

    def test_one_digit_at_a_gap(self):
        for chunk in ("a12b", "11ab", "ab11", ".12a", "a12.", "a111b"):
            self.pattern_wrong(chunk)

    def test_where_a_point_may_not_stand(self):
        for chunk in ("a.1b", "a1.b", "..a1", "a1..", "1.a", "a.1", "1.a.", ".a.1", "...", ".a1b.."):
            self.pattern_wrong(chunk)

    def test_no_strokes(self):
        for chunk in ("a-1b", "-a1", "a1-", "-", "a1-b"):
            self.pattern_wrong(chunk)

    def test_keywords_are_none(self):
        self.pattern_wrong("pattern")
        self.pattern_wrong("word")

    def test_no_chunk(self):
        self.fault_at("margins 2 2 ; pattern !;", 3)
        self.fault_at("margins 2 2 ; pattern !", 3)


class ToldTwice(LoadCase):
    def test_words_with_the_same_letters(self):
        self.fault_at("margins 2 2 ; word ab ; word !ab ;", 5)
        self.fault_at("margins 2 2 ; word a-bc ; word ba ; word !ab-c ;", 5)
        self.right("margins 2 2 ; word ab ; word ba ; word aba ;", 3, 0)

    def test_patterns_with_the_same_letters(self):
        self.fault_at("margins 2 2 ; pattern a1b ; pattern !a1b ;", 5)
        self.fault_at("margins 2 2 ; pattern a1b ; pattern !ab3 ;", 5)
        self.fault_at("margins 2 2 ; pattern .a1 ; pattern 1a ; pattern !.2a3 ;", 5)
        self.fault_at("margins 2 2 ; pattern .a1. ; pattern 1a. ; pattern !.2a3. ;", 5)
        self.fault_at("margins 2 2 ; pattern .a1. ; pattern 1a. ; pattern !a3. ;", 5)

    def test_other_points_are_other_patterns(self):
        self.right("margins 2 2 ; pattern a1 ; pattern .a1 ; pattern a1. ; pattern .a1. ;", 0, 4)

    def test_a_word_and_a_pattern_do_not_meet(self):
        self.right("margins 2 2 ; word ab ; pattern ab1 ;", 1, 1)


class WhichComesFirst(LoadCase):
    def test_from_left_to_right(self):
        self.fault_at("margins !6 ; ;", 7)
        self.fault_at("margins 2 !; 6 ;", 3)
        self.fault_at("margins 2 2 ; word !a ; word ab ; word ab ;", 7)
        self.fault_at("margins 2 2 ; word ab ; word !ab ; word a ;", 5)
        self.fault_at("margins 2 2 ; word !a", 7)
        self.fault_at("margins 2 2 ; word ab ; word !ab", 5)
        self.fault_at("margins 2 2 ; word ab !word a ;", 3)
        self.fault_at("margins 2 2 ; pattern !a margins", 7)
        self.fault_at("margins 2 2 ; pattern a1 ; pattern !a2 ; word ab ;", 5)
        self.fault_at("margins 2 2 ; pattern a1 ; !word a ; pattern a1 ;", 3)

    def test_a_chunk_not_as_told_before_too_many(self):
        words = word_lines(24)
        words[23] = "word !a ;"
        self.fault_at("margins 2 2 ; " + " ".join(words) + " word ab ;", 7)


class BehindAFault(unittest.TestCase):
    FAULTY = [
        " " * 4097, "A", "", "margins 2 2 ; word a ;", "margins 1 1 ; word ab ; word ab ;",
        "margins 1 1 ; pattern a1 ; word ab ;", "margins 1 1 ; " + " ".join(word_lines(25)),
        "margins 1 1 ; word xy ; pattern x1 ; pattern x2 ;",
    ]

    def test_the_list_is_as_it_was(self):
        for text in self.FAULTY:
            told = run(load(SIMPLE), load(text), SHOWN)
            self.assertEqual(told[1][0], 0)
            self.assertEqual(len(told[1]), 3)
            self.assertEqual(shown_text(told[2]), form(2, 3, ["ta-ble"], ["a1b"]))

    def test_there_is_still_none(self):
        for text in self.FAULTY:
            told = run(load(text), SHOWN)
            self.assertEqual(told[0][0], 0)
            self.assertEqual(told[1], [-1])


if __name__ == "__main__":
    unittest.main()
