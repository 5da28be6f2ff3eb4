import itertools
import re
import unittest

from eitherbook.errors import BadLine, SayError
from eitherbook.lines import read, shown
from tests import plain

# Every sign that a line may hold: from the blank to ~, but the percent sign.
SIGNS = [chr(code) for code in range(ord(" "), ord("~") + 1) if chr(code) != "%"]
WRITTEN = r"(not )?([1-9]|[1-5][0-9]|60)"
LINE = re.compile(WRITTEN + "(?: (or|then|as|unlike) " + WRITTEN + ")?")


def written(lit):
    return str(lit) if lit > 0 else "not " + str(-lit)


class LineCase(unittest.TestCase):
    def check_read(self, line, says):
        answer = read(line)
        self.assertEqual(answer, says)
        self.assertIs(type(answer), list)
        for say in answer:
            self.assertIs(type(say), tuple)
            self.assertEqual([type(lit) for lit in say], [int, int])

    def check_refused(self, line):
        with self.subTest(line=line):
            with self.assertRaises(SayError) as taken:
                read(line)
            self.assertIs(type(taken.exception), BadLine)


class Read(LineCase):
    def test_one_literal(self):
        self.check_read("7", [(7, 7)])
        self.check_read("not 7", [(-7, -7)])

    def test_or(self):
        self.check_read("1 or 2", [(1, 2)])
        self.check_read("not 1 or 2", [(-1, 2)])
        self.check_read("1 or not 2", [(1, -2)])
        self.check_read("not 1 or not 2", [(-1, -2)])

    def test_then(self):
        self.check_read("1 then 2", [(-1, 2)])
        self.check_read("not 1 then 2", [(1, 2)])
        self.check_read("1 then not 2", [(-1, -2)])
        self.check_read("not 1 then not 2", [(1, -2)])

    def test_as(self):
        self.check_read("1 as 2", [(-1, 2), (1, -2)])
        self.check_read("not 1 as 2", [(1, 2), (-1, -2)])
        self.check_read("1 as not 2", [(-1, -2), (1, 2)])
        self.check_read("not 1 as not 2", [(1, -2), (-1, 2)])

    def test_unlike(self):
        self.check_read("1 unlike 2", [(1, 2), (-1, -2)])
        self.check_read("not 1 unlike 2", [(-1, 2), (1, -2)])
        self.check_read("1 unlike not 2", [(1, -2), (-1, 2)])
        self.check_read("not 1 unlike not 2", [(-1, -2), (1, 2)])

    def test_the_literals_stay_in_the_order_of_the_line(self):
        self.check_read("5 or 3", [(5, 3)])
        self.check_read("5 as 3", [(-5, 3), (5, -3)])
        self.check_read("5 unlike 3", [(5, 3), (-5, -3)])

    def test_one_switch_on_both_sides(self):
        self.check_read("4 or 4", [(4, 4)])
        self.check_read("4 or not 4", [(4, -4)])
        self.check_read("4 then 4", [(-4, 4)])
        self.check_read("4 as 4", [(-4, 4), (4, -4)])
        self.check_read("4 unlike 4", [(4, 4), (-4, -4)])

    def test_the_numbers_at_the_edges(self):
        for number in (1, 9, 10, 59, 60):
            self.check_read(f"{number}", [(number, number)])
            self.check_read(f"not {number}", [(-number, -number)])
            self.check_read(f"{number} or not {number}", [(number, -number)])
            self.check_read(f"2 then {number}", [(-2, number)])

    def test_what_a_line_says_of_its_two_literals(self):
        meanings = (
            ("or", lambda a, b: a or b),
            ("then", lambda a, b: b or not a),
            ("as", lambda a, b: a == b),
            ("unlike", lambda a, b: a != b),
        )
        for word, meaning in meanings:
            for a, b in plain.all_says(3):
                line = f"{written(a)} {word} {written(b)}"
                says = read(line)
                for setting in plain.all_settings(3):
                    with self.subTest(line=line, setting=setting):
                        asked = meaning(plain.lit_true(a, setting), plain.lit_true(b, setting))
                        self.assertEqual(all(plain.say_true(say, setting) for say in says), asked)


class Refused(LineCase):
    def test_numbers(self):
        for number in ("0", "61", "01", "+1", "-1", "00", "001", "060", "010", "62", "70", "99", "100", "600",
                       "1.0", "1_0", "0x1", "1e1"):
            self.check_refused(number)
            self.check_refused(f"not {number}")
            self.check_refused(f"{number} or 1")
            self.check_refused(f"1 as {number}")
            self.check_refused(f"1 then not {number}")

    def test_the_empty_line_and_blanks_alone(self):
        for line in ("", " ", "  ", "   "):
            self.check_refused(line)

    def test_a_word_alone(self):
        for line in ("not", "or", "then", "as", "unlike", "and", "one", "a"):
            self.check_refused(line)

    def test_a_blank_ahead_or_behind_or_twice(self):
        for line in ("1", "not 1", "1 or 2", "not 1 then 2", "1 as not 2", "not 1 unlike not 2"):
            self.check_refused(" " + line)
            self.check_refused(line + " ")
            places = [place for place, sign in enumerate(line) if sign == " "]
            for place in places:
                self.check_refused(line[:place] + " " + line[place:])

    def test_no_blank_between_words(self):
        for line in ("not1", "1or2", "1 or2", "1or 2", "not1 or 2", "1 ornot 2", "1 unlike2", "1 2"):
            self.check_refused(line)

    def test_not_twice_and_not_in_a_wrong_place(self):
        for line in ("not not 1", "1 or not not 2", "not not 1 or 2", "1 not", "1 not or 2", "1 or 2 not", "1 not 2"):
            self.check_refused(line)

    def test_a_literal_lacking(self):
        for word in ("or", "then", "as", "unlike"):
            for line in (f"1 {word}", f"{word} 1", f"1 {word} not", f"not {word} 1", f"not {word} not",
                         f"not 1 {word}"):
                self.check_refused(line)

    def test_a_word_too_many(self):
        for line in ("1 2", "1 or 2 3", "1 or 2 or 3", "1 or or 2", "1 or then 2", "not 1 2", "1 as 2 as", "or 1 or 2",
                     "1 or not 2 3", "1 1 or 2", "1 is on"):
            self.check_refused(line)

    def test_other_words(self):
        for word in ("and", "OR", "Or", "if", "xor", "unless", "unlik", "unlikes", "thenn", "o", "as.", "|", "="):
            self.check_refused(f"1 {word} 2")
        for line in ("Not 1", "NOT 1", "no 1", "nott 1", "-1 or 2", "!1", "1 or -2", "1 or !2", "(1)", "1;", "1, 2"):
            self.check_refused(line)

    def test_every_line_of_one_or_two_signs(self):
        fitting = [str(number) for number in range(1, 61)]
        for length in (1, 2):
            for signs in itertools.product(SIGNS, repeat=length):
                line = "".join(signs)
                if line in fitting:
                    self.check_read(line, [(int(line), int(line))])
                else:
                    self.check_refused(line)

    def test_every_sign_put_into_a_line(self):
        for line in ("1", "not 12", "1 or 2", "not 3 unlike not 45"):
            for place in range(len(line) + 1):
                for sign in SIGNS:
                    self.check_form(line[:place] + sign + line[place:])
                    self.check_form(line[:place] + sign + line[place + 1:])

    def test_every_row_of_some_words(self):
        rows = [row for length in range(1, 5) for row in itertools.product(
            ("1", "60", "61", "01", "not", "or", "then", "as", "unlike", ""), repeat=length)]
        rows += [row for length in (5, 6) for row in itertools.product(("1", "2", "not", "or", ""), repeat=length)]
        for row in rows:
            self.check_form(" ".join(row))

    def check_form(self, line):
        """Without a subTest for each, as there are many: whether the line is refused just where it should be."""
        try:
            says = read(line)
        except BadLine:
            says = None
        found = LINE.fullmatch(line)
        if found is None:
            self.assertIsNone(says, line)
            return
        a = int(found[2]) * (-1 if found[1] else 1)
        b = None if found[3] is None else int(found[5]) * (-1 if found[4] else 1)
        asked = {None: [(a, a)]} if b is None else {
            "or": [(a, b)], "then": [(-a, b)], "as": [(-a, b), (a, -b)], "unlike": [(a, b), (-a, -b)]}
        self.assertEqual(says, asked[found[3]], line)


class Shown(LineCase):
    def test_literals_alike(self):
        self.assertEqual(shown((3, 3)), "3")
        self.assertEqual(shown((-3, -3)), "not 3")
        self.assertEqual(shown((60, 60)), "60")

    def test_two_literals(self):
        self.assertEqual(shown((1, 2)), "1 or 2")
        self.assertEqual(shown((2, 1)), "2 or 1")
        self.assertEqual(shown((-1, 2)), "not 1 or 2")
        self.assertEqual(shown((1, -2)), "1 or not 2")
        self.assertEqual(shown((-10, -60)), "not 10 or not 60")

    def test_a_literal_with_its_own_flip(self):
        self.assertEqual(shown((1, -1)), "1 or not 1")
        self.assertEqual(shown((-1, 1)), "not 1 or 1")

    def test_what_is_shown_is_read_as_that_statement_alone(self):
        for say in plain.all_says(60):
            self.assertIs(type(shown(say)), str)
            self.check_read(shown(say), [say])


if __name__ == "__main__":
    unittest.main()
