"""The list of calls and the list of answers, and what is kept from call to call."""

import unittest

from helper import (
    FARTHEST, MARGINS, NEEDLESS, PATTERN, SHOWN, SLIM, WORD, WORKED, Chance, as_bytes, drop, form, joint, line_break,
    load, plain_letters, put, report, run,
)
from partedwordsdesk.patterns import answers


class Unchanging(list):
    """A list of calls that fails when it is changed, for a while or for good."""

    def fail(self, *given):
        raise AssertionError("what is handed in is changed")

    append = clear = extend = insert = pop = remove = reverse = sort = fail
    __setitem__ = __delitem__ = __iadd__ = __imul__ = fail


class Interface(unittest.TestCase):
    def test_numbers_in_and_numbers_out(self):
        calls = load("margins 2 2;") + report(0) + [1] + put("word ab;")
        told = answers(calls)
        shown = as_bytes("margins 2 2 ;\n")
        self.assertEqual(told, [3, 1, 0, 0] + [1, -2] + [15, 14] + shown + [3, 1, 0, 0])

    def test_kinds(self):
        for calls in (
            load(WORKED) + SHOWN + report(0) + MARGINS + put("pattern e1a ;") + report(9) + put("x"),
            load(WORKED) + NEEDLESS + joint("cableable") + line_break(4, "table") + line_break(2, "table") + SLIM,
            load(WORKED) + drop(WORD, 0) + drop(PATTERN, 1) + drop(2, 0) + drop(0, 9) + joint("x") + SHOWN,
        ):
            told = answers(calls)
            self.assertIs(type(told), list)
            for number in told:
                self.assertIs(type(number), int)

    def test_a_refusal_is_its_number_alone(self):
        self.assertEqual(answers([1]), [1, -1])
        self.assertEqual(answers(load("margins 2 2;") + report(-1) + put("")), [3, 1, 0, 0, 1, -2, 1, -4])
        told = answers(load("margins 2 2;") + drop(0, 0) + drop(2, 0) + joint("x") + line_break(1, "x"))
        self.assertEqual(told, [3, 1, 0, 0, 1, -2, 1, -4, 1, -4, 1, -4])
        self.assertEqual(answers(load("margins 2 2;") + line_break(-1, "xy")), [3, 1, 0, 0, 1, -3])

    def test_counts_that_stand_ahead(self):
        told = answers(load("margins 0 0; word ab; pattern a1b; pattern x1;") + NEEDLESS + joint("abab") + SLIM)
        self.assertEqual(told, [3, 1, 1, 2] + [2, 1, 1] + [9, 1, 2, 3, 1, 2, 3, 2, 1, 3] + [2, 1, 1])
        self.assertEqual(answers(load("margins 0 0;") + NEEDLESS + joint("ab")), [3, 1, 0, 0] + [1, 0] + [2, 0, 0])

    def test_a_fault_of_load(self):
        self.assertEqual(answers([0, 0]), [3, 0, 3, 0])
        self.assertEqual(answers([0, 1, 65]), [3, 0, 2, 0])

    def test_a_text_without_bytes(self):
        self.assertEqual(run([0, 0], load("margins 1 1;"), [4, 0], SHOWN)[2], [-4])

    def test_rows_whose_numbers_look_like_calls(self):
        told = run([0, 5, 0, 1, 2, 3, 4], [4, 3, 4, 0, 1], SHOWN)
        self.assertEqual(told, [[0, 2, 0], [-1], [-1]])
        told = run(load("margins 0 0;"), [8, 2, 8, 0], [9, 9, 3, 5, 0, 0], [9, 0, 2, 97, 98], [5, 8, 2], [5, 0, 9])
        self.assertEqual(told[1:], [[-4], [-4], [0], [-4], [-2]])

    def test_rows_without_numbers(self):
        self.assertEqual(run(load("margins 0 0;"), [8, 0], [9, 3, 0], [4, 0], NEEDLESS)[1:], [[-4], [-4], [-4], [0]])

    def test_what_is_handed_in_is_not_changed(self):
        calls = load(WORKED) + SHOWN + report(1) + MARGINS + put("pattern e1a ;") + put("word a-ble ;") + load("x")
        before = list(calls)
        answers(calls)
        self.assertEqual(calls, before)
        calls = load(WORKED) + NEEDLESS + drop(WORD, 2) + drop(PATTERN, 0) + SLIM + joint("cableable")
        calls = calls + line_break(4, "table") + line_break(FARTHEST, "x")
        before = list(calls)
        answers(calls)
        self.assertEqual(calls, before)

    def test_a_list_that_lets_nothing_be_changed(self):
        calls = Unchanging(load(WORKED) + NEEDLESS + drop(PATTERN, 0) + SLIM + joint("table") + line_break(4, "table"))
        self.assertEqual(answers(calls), answers(list(calls)))

    def test_what_is_given_back_is_ones_own(self):
        calls = load(WORKED) + MARGINS + SHOWN
        first = answers(calls)
        kept = list(first)
        first.clear()
        self.assertEqual(answers(calls), kept)

    def test_nothing_is_kept_for_the_next_time(self):
        answers(load(WORKED) + put("pattern e1a ;"))
        self.assertEqual(run(SHOWN, report(0), MARGINS, put("word ab ;")), [[-1]] * 4)
        first = answers(load(WORKED) + put("word x-yz ;") + SHOWN)
        self.assertEqual(answers(load(WORKED) + put("word x-yz ;") + SHOWN), first)
        first = answers(load(WORKED) + NEEDLESS + SLIM + drop(PATTERN, 0) + NEEDLESS)
        self.assertEqual(answers(load(WORKED) + NEEDLESS + SLIM + drop(PATTERN, 0) + NEEDLESS), first)


class Worked(unittest.TestCase):
    def test_asked(self):
        told = run(
            load(WORKED), report(0), NEEDLESS, MARGINS, joint("cableable"), line_break(4, "table"),
            line_break(2, "table"),
        )
        self.assertEqual(told, [
            [1, 3, 3],
            [1, 1, 0, 0, 2, 2, 0, 1],
            [1, 1],
            [0, 4, 0, 2, 2, 2, 2, 3, 3, 2, 2, 2, 2, 3, 3] + [3] * 24,
            [1, 5, 3, 2, 5, 7, 2, 2, 6],
            [1, 2],
            [0],
        ])

    def test_changed(self):
        told = run(load(WORKED), put("pattern e1a ;"), put("word a-ble ;"), report(2), drop(1, 2))
        self.assertEqual(told, [[1, 3, 3], [3, 4, 0], [3, 4, 0], [0, 0, 1, 0, 3, 3, 0, 1, 2], [3, 3, 1, 2]])

    def test_in_one_line(self):
        told = run(
            load(WORKED), report(0), NEEDLESS, MARGINS, joint("cableable"), line_break(4, "table"),
            put("pattern e1a ;"), put("word a-ble ;"), report(2), drop(1, 2),
        )
        self.assertEqual(told[4:], [
            [1, 5, 3, 2, 5, 7, 2, 2, 6], [1, 2], [3, 4, 0], [3, 4, 0], [0, 0, 1, 0, 3, 3, 0, 1, 2], [3, 3, 1, 2],
        ])


class WithoutAList(unittest.TestCase):
    def test_each_call_but_load(self):
        for call in (
            SHOWN, report(0), report(-5), MARGINS, put("word ab ;"), put(""), drop(0, 0), drop(7, -7), NEEDLESS, SLIM,
            joint("abab"), joint(""), line_break(4, "abab"), line_break(-4, ""), line_break(FARTHEST, "abab"),
        ):
            self.assertEqual(run(call), [[-1]])
            self.assertEqual(run(load("margins"), call)[1], [-1])

    def test_from_the_load_on_there_is_one(self):
        told = run(SHOWN, report(0), load("margins 2 2;"), SHOWN, report(0), MARGINS, put("word ab;"))
        self.assertEqual(told[:2], [[-1], [-1]])
        self.assertEqual([answer[0] for answer in told[2:]], [1, 14, -2, 0, 1])
        told = run(NEEDLESS, SLIM, drop(0, 0), joint("ab"), line_break(1, "ab"), load("margins 2 2;"), NEEDLESS, SLIM)
        self.assertEqual(told, [[-1]] * 5 + [[1, 0, 0], [0], [0, 0]])

    def test_a_load_with_a_fault_leaves_the_list(self):
        told = run(load(WORKED), NEEDLESS, load("margins 2 2 ; word"), NEEDLESS, joint("cableable"), SLIM)
        self.assertEqual(told[1:], [[1, 1], [0, 3, 18], [1, 1], [1, 5, 3, 2, 5, 7, 2, 2, 6], [2, 1]])


class SeveralCalls(unittest.TestCase):
    def test_each_sees_what_was_changed_before(self):
        told = run(
            load("margins 1 1 ; word ab ;"), report(0), put("pattern a1b ;"), report(0), put("word a-b ;"),
            report(0), put("pattern a2b ;"), report(0), load("margins 1 1 ; word xy ;"), report(0),
        )
        self.assertEqual(told, [
            [1, 1, 0], [1, 0, 0, 0, 0, 0], [1, 1, 1, 0], [0, 0, 1, 0, 1, 1, 0], [1, 1, 0],
            [1, 1, 0, 0, 1, 1, 0], [1, 1, 1, 0], [0, 0, 0, 1, 2, 1, 0], [1, 1, 0], [1, 0, 0, 0, 0, 0],
        ])

    def test_the_largest_line_of_calls(self):
        words = ["-".join("abcdefghijklmno" + chr(97 + n)) for n in range(24)]
        patterns = ["1" + "ab"[n % 2] + chr(97 + n // 2) for n in range(40)]
        text = form(1, 1, words, patterns)
        calls = [load(text + "#" * (4096 - len(text)))] * 4 + [MARGINS] * 5 + [SHOWN]
        told = run(*calls)
        self.assertEqual(told[:4], [[1, 24, 40]] * 4)
        self.assertEqual(told[4:9], [told[4]] * 5)
        self.assertEqual(told[9], [len(text)] + as_bytes(text))

    def test_the_most_work(self):
        letters = "abcdefghijklmnopqrstuvwxyz"
        letters = letters + letters[24::-1]
        words = [letters[n:n + 16] for n in range(0, 36, 2)]
        # each hides the next one's odd digit, so that slim goes through them again and again
        patterns = [letters[n] + "1" + letters[n + 1] + "2" + letters[n + 2] for n in range(40)]
        calls = [load(form(0, 0, words, patterns)), NEEDLESS, SLIM, NEEDLESS, SLIM]
        told = run(*calls, *calls)
        self.assertEqual(told[:5], told[5:])
        self.assertEqual(told[3:5], [[0], [told[2][0], 0]])

    def test_texts_of_8192_bytes(self):
        told = run(load([59] * 8192), load("margins 2 2;"), put([255] * 8192), SHOWN)
        self.assertEqual(told[0], [0, 1, 4096])
        self.assertEqual(told[2], [-4])
        told = run(load("margins 2 2;"), joint([97] * 8192), line_break(5, [97] * 8192), SHOWN)
        self.assertEqual(told[1:3], [[-4], [-4]])


class Mixed(unittest.TestCase):
    """Lines of ten calls of all kinds, held against a list that is kept in the plainest way."""

    def letters(self, chance, desk):
        if not desk.words or chance.below(3) == 0:
            return chance.letters(2, 16)
        pair = [plain_letters(desk.words[chance.below(len(desk.words))]) for _ in range(1 + chance.below(2))]
        return "".join(pair)[:16]

    def changed(self, chance, desk):
        """A call that changes the list, and its answer."""
        kind = chance.below(6)
        if kind == 0:
            chunk = chance.word()
            return put(f"word {chunk} ;"), desk.put("word", chunk)
        if kind < 3:
            chunk = chance.pattern()
            return put(f"pattern {chunk} ;"), desk.put("pattern", chunk)
        if kind < 5:
            number = chance.below(12) - 1
            return drop(kind - 3, number), desk.drop(kind - 3, number)
        return SLIM, desk.slim()

    def refused(self, chance):
        """A call that is refused, and its answer."""
        return [
            (drop(2, 0), [-4]), (drop(-FARTHEST, FARTHEST), [-4]), (drop(0, -1), [-2]), (drop(1, 40), [-2]),
            (report(24), [-2]), (report(-1), [-2]), (joint("x"), [-4]), (joint("ab-ab"), [-4]), (put("ab ;"), [-4]),
            (line_break(101, "ab"), [-3]), (line_break(-1, "ab"), [-3]), (line_break(-1, "a"), [-4]),
            (load("margins 2 2 ; word ab"), [0, 3, 21]),
        ][chance.below(13)]

    def asked(self, chance, desk):
        """A call that changes nothing, and its answer."""
        kind = chance.below(6)
        if kind == 0:
            return SHOWN, desk.shown()
        if kind == 1:
            number = chance.below(len(desk.words) + 1)
            return report(number), desk.report(number)
        if kind == 2:
            return MARGINS, desk.margins()
        if kind == 3:
            return NEEDLESS, desk.needless()
        letters = self.letters(chance, desk)
        if kind == 4:
            return joint(letters), desk.joint(letters)
        places = chance.below(20)
        return line_break(places, letters), desk.line_break(places, letters)

    def test_many_lines(self):
        chance = Chance(83)
        for turn in range(120):
            desk = chance.desk(24 if turn % 4 == 0 else 8, 40 if turn % 3 == 0 else 12)
            pairs = [(load(desk.form()), [1, len(desk.words), len(desk.patterns)])]
            while len(pairs) < 10:
                kind = chance.below(12)
                if kind == 0:
                    pairs.append(self.refused(chance))
                elif kind < 5:
                    pairs.append(self.changed(chance, desk))
                else:
                    pairs.append(self.asked(chance, desk))
            self.assertEqual(run(*[pair[0] for pair in pairs]), [pair[1] for pair in pairs])


if __name__ == "__main__":
    unittest.main()
