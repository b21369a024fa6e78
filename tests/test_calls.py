"""The list of calls and the list of answers, and what is kept from call to call."""

import unittest

from helper import MARGINS, SHOWN, WORKED, as_bytes, form, load, put, report, run
from partedwordsdesk.patterns import answers


class Interface(unittest.TestCase):
    def test_numbers_in_and_numbers_out(self):
        calls = load("margins 2 2;") + report(0) + [1] + put("word ab;")
        told = answers(calls)
        shown = as_bytes("margins 2 2 ;\n")
        self.assertEqual(told, [3, 1, 0, 0] + [1, -2] + [15, 14] + shown + [3, 1, 0, 0])

    def test_kinds(self):
        told = answers(load(WORKED) + SHOWN + report(0) + MARGINS + put("pattern e1a ;") + report(9) + put("x"))
        self.assertIs(type(told), list)
        for number in told:
            self.assertIs(type(number), int)

    def test_a_refusal_is_its_number_alone(self):
        self.assertEqual(answers([1]), [1, -1])
        self.assertEqual(answers(load("margins 2 2;") + report(-1) + put("")), [3, 1, 0, 0, 1, -2, 1, -4])

    def test_a_fault_of_load(self):
        self.assertEqual(answers([0, 0]), [3, 0, 3, 0])
        self.assertEqual(answers([0, 1, 65]), [3, 0, 2, 0])

    def test_a_text_without_bytes(self):
        self.assertEqual(run([0, 0], load("margins 1 1;"), [4, 0], SHOWN)[2], [-4])

    def test_rows_whose_numbers_look_like_calls(self):
        told = run([0, 5, 0, 1, 2, 3, 4], [4, 3, 4, 0, 1], SHOWN)
        self.assertEqual(told, [[0, 2, 0], [-1], [-1]])

    def test_what_is_handed_in_is_not_changed(self):
        calls = load(WORKED) + SHOWN + report(1) + MARGINS + put("pattern e1a ;") + put("word a-ble ;") + load("x")
        before = list(calls)
        answers(calls)
        self.assertEqual(calls, before)

    def test_what_is_given_back_is_ones_own(self):
        calls = load(WORKED) + MARGINS + SHOWN
        first = answers(calls)
        kept = list(first)
        first.clear()
        self.assertEqual(answers(calls), kept)

    def test_nothing_is_kept_for_the_next_time(self):
        answers(load(WORKED) + put("pattern e1a ;"))
        self.assertEqual(run(SHOWN, report(0), MARGINS, put("word ab ;")), [[-1]] * 4)
        first = answers(load(WORKED) + put("word x-yz ;") + SHOWN)
        self.assertEqual(answers(load(WORKED) + put("word x-yz ;") + SHOWN), first)


class Worked(unittest.TestCase):
    def test_as_far_as_these_calls_go(self):
        told = run(
            load(WORKED), report(0), MARGINS, put("pattern e1a ;"), put("word a-ble ;"), report(2)
        )
        self.assertEqual(told, [
            [1, 3, 3],
            [1, 1, 0, 0, 2, 2, 0, 1],
            [0, 4, 0, 2, 2, 2, 2, 3, 3, 2, 2, 2, 2, 3, 3] + [3] * 24,
            [3, 4, 0],
            [3, 4, 0],
            [0, 0, 1, 0, 3, 3, 0, 1, 2],
        ])


class WithoutAList(unittest.TestCase):
    def test_each_call_but_load(self):
        for call in (SHOWN, report(0), report(-5), MARGINS, put("word ab ;"), put("")):
            self.assertEqual(run(call), [[-1]])
            self.assertEqual(run(load("margins"), call)[1], [-1])

    def test_from_the_load_on_there_is_one(self):
        told = run(SHOWN, report(0), load("margins 2 2;"), SHOWN, report(0), MARGINS, put("word ab;"))
        self.assertEqual(told[:2], [[-1], [-1]])
        self.assertEqual([answer[0] for answer in told[2:]], [1, 14, -2, 0, 1])


class SeveralCalls(unittest.TestCase):
    def test_each_sees_what_was_changed_before(self):
        told = run(
            load("margins 1 1 ; word ab ;"), report(0), put("pattern a1b ;"), report(0), put("word a-b ;"),
            report(0), put("pattern a2b ;"), report(0), load("margins 1 1 ; word xy ;"), report(0),
        )
        self.assertEqual(told, [
            [1, 1, 0], [1, 0, 0, 0, 0, 0], [1, 1, 1, 0], [0, 0, 1, 0, 1, 1, 0], [1, 1, 0],
            [1, 1, 0, 0, 1, 1, 0], [1, 1, 1, 0], [0, 0, 0, 1, 2, 1, 0], [1, 1, 0], [1, 0, 0, 0, 0, 0],
        ])

    def test_the_largest_line_of_calls(self):
        words = ["-".join("abcdefghijklmno" + chr(97 + n)) for n in range(24)]
        patterns = ["1" + "ab"[n % 2] + chr(97 + n // 2) for n in range(40)]
        text = form(1, 1, words, patterns)
        calls = [load(text + "#" * (4096 - len(text)))] * 4 + [MARGINS] * 5 + [SHOWN]
        told = run(*calls)
        self.assertEqual(told[:4], [[1, 24, 40]] * 4)
        self.assertEqual(told[4:9], [told[4]] * 5)
        self.assertEqual(told[9], [len(text)] + as_bytes(text))

    def test_texts_of_8192_bytes(self):
        told = run(load([59] * 8192), load("margins 2 2;"), put([255] * 8192), SHOWN)
        self.assertEqual(told[0], [0, 1, 4096])
        self.assertEqual(told[2], [-4])


if __name__ == "__main__":
    unittest.main()
