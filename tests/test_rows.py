"""Points 4 to 7: rows of signs, what they do, their products and their texts."""

import random
import unittest

from helpers import Refusing, all_rows, beside_by_letters, done, done_both, letter_at, random_pair, random_row

from twinwires.errors import NoProduct, NoRow, NoText
from twinwires.rows import checked_row, goes_beside, letters_of, row_of, times, weight_of

SOME_N = (1, 2, 3, 7, 8, 20, 39, 40)


class CheckedRow(Refusing):
    def test_tells_a_row_as_it_is(self):
        for n in SOME_N:
            top = (1 << n) - 1
            for minus in (0, 1):
                for xs in (0, 1, top // 2, top):
                    for zs in (0, 1, top // 2, top):
                        row = (minus, xs, zs)
                        self.assertEqual(checked_row(row, n), row)
                        self.assertIs(type(checked_row(row, n)), tuple)

    def test_every_row_of_few_wires(self):
        for n in (1, 2, 3):
            for row in all_rows(n):
                self.assertEqual(checked_row(row, n), row)

    def test_refuses_wires_beyond(self):
        for n in SOME_N:
            for much in (1 << n, (1 << n) + 1, 1 << (n + 1), 1 << 41, 10 ** 60, 1 << 20000):
                self.refused(NoRow, checked_row, (0, much, 0), n)
                self.refused(NoRow, checked_row, (1, 0, much), n)
                self.refused(NoRow, checked_row, (0, much, much), n)

    def test_refuses_numbers_below_nought(self):
        for n in SOME_N:
            for below in (-1, -2, -(1 << n), -(10 ** 60)):
                self.refused(NoRow, checked_row, (0, below, 0), n)
                self.refused(NoRow, checked_row, (0, 0, below), n)
                self.refused(NoRow, checked_row, (1, below, below), n)

    def test_refuses_another_minus(self):
        for n in SOME_N:
            for minus in (2, -1, 3, 4, True, False, None, "0", "-", 0.0, 1.0, (0,), [1]):
                self.refused(NoRow, checked_row, (minus, 1, 1), n)

    def test_refuses_parts_that_are_no_whole_numbers(self):
        for part in (True, False, None, 0.0, 1.0, "0", "1", "", [], [1], (), (1,), {}, 1j, b"1"):
            self.refused(NoRow, checked_row, (0, part, 0), 2)
            self.refused(NoRow, checked_row, (0, 0, part), 2)
            self.refused(NoRow, checked_row, (part, 0, 0), 2)
            self.refused(NoRow, checked_row, (part, part, part), 2)

    def test_refuses_too_few_or_too_many_parts(self):
        for thing in ((), (0,), (0, 1), (0, 1, 1, 0), (0, 0, 0, 0, 0), ((0, 1, 1),)):
            self.refused(NoRow, checked_row, thing, 2)

    def test_refuses_other_kinds(self):
        things = (None, 0, 1, -1, True, 1.5, "", "+x.", "011", [], [0, 1, 1], {}, {0: 0, 1: 1, 2: 1},
                  {0, 1, 2}, range(3), b"\x00\x01\x01", checked_row, object(), NoRow)
        for thing in things:
            for n in (1, 2, 40):
                self.refused(NoRow, checked_row, thing, n)

    def test_the_arguments_have_their_names(self):
        self.assertEqual(checked_row(thing=(0, 1, 0), n=1), (0, 1, 0))


class WeightOf(unittest.TestCase):
    def test_without_letters(self):
        self.assertEqual(weight_of((0, 0, 0)), 0)
        self.assertEqual(weight_of((1, 0, 0)), 0)

    def test_one_letter(self):
        for k in range(40):
            for row in ((0, 1 << k, 0), (1, 0, 1 << k), (0, 1 << k, 1 << k)):
                self.assertEqual(weight_of(row), 1, row)

    def test_some_letters(self):
        self.assertEqual(weight_of((0, 0b1001, 0b1100)), 3)
        self.assertEqual(weight_of((1, (1 << 40) - 1, (1 << 40) - 1)), 40)
        chance = random.Random(4)
        for n in SOME_N:
            for turn in range(20):
                row = random_row(chance, n)
                told = weight_of(row)
                self.assertEqual(told, sum(1 for k in range(n) if letter_at(row, k)), row)
                self.assertIs(type(told), int)

    def test_the_argument_has_its_name(self):
        self.assertEqual(weight_of(row=(0, 1, 2)), 2)


class GoesBeside(unittest.TestCase):
    def test_letters_of_one_wire(self):
        letters = ((0, 0), (1, 0), (0, 1), (1, 1))
        for a in letters:
            for b in letters:
                beside = a == b or a == (0, 0) or b == (0, 0)
                self.assertIs(goes_beside((0,) + a, (1,) + b), beside)

    def test_the_documents_own(self):
        self.assertIs(goes_beside((0, 3, 0), (0, 0, 3)), True)
        self.assertIs(goes_beside((0, 1, 0), (0, 0, 1)), False)

    def test_a_wire_counted_on_either_side(self):
        # At wire 0 x meets z, at wire 1 z meets x: two crossings, one of each kind.
        self.assertIs(goes_beside((0, 1, 2), (0, 2, 1)), True)
        # Three crossings.
        self.assertIs(goes_beside((0, 1, 6), (0, 6, 1)), False)

    def test_every_pair_of_few_wires(self):
        for n in (1, 2):
            for one in all_rows(n):
                for other in all_rows(n):
                    self.check(one, other, n)

    def test_some_pairs_of_many_wires(self):
        chance = random.Random(6)
        for n in SOME_N:
            for beside in (True, False) * 10:
                self.check(*random_pair(chance, n, beside), n)

    def check(self, one, other, n):
        told = goes_beside(one, other)
        self.assertIs(told, beside_by_letters(one, other, n), (one, other))
        self.assertIs(goes_beside(other, one), told, (one, other))
        same = done_both(one, other, 0, n) == done_both(other, one, 0, n)
        self.assertEqual(told, same, (one, other))

    def test_the_arguments_have_their_names(self):
        self.assertIs(goes_beside(one=(0, 1, 0), other=(0, 1, 0)), True)


class Times(Refusing):
    def test_the_documents_own(self):
        self.assertEqual(times((0, 3, 0), (0, 0, 3)), (1, 3, 3))
        self.assertEqual(times((0, 0, 3), (0, 3, 0)), (1, 3, 3))
        self.refused(NoProduct, times, (0, 1, 0), (0, 0, 1))
        self.refused(NoProduct, times, (0, 0, 1), (0, 1, 0))

    def test_every_pair_of_few_wires(self):
        for n in (1, 2):
            for one in all_rows(n):
                for other in all_rows(n):
                    self.check(one, other, n, range(1 << n))

    def test_every_pair_of_three_wires_without_minus(self):
        rows = [row for row in all_rows(3) if row[0] == 0]
        for one in rows:
            for other in rows:
                self.check(one, other, 3, range(8))

    def test_some_pairs_of_many_wires(self):
        chance = random.Random(7)
        for n in SOME_N:
            for beside in (True, True, True, False) * 10:
                one, other = random_pair(chance, n, beside)
                some = [0, (1 << n) - 1] + [chance.getrandbits(n) for turn in range(4)]
                self.check(one, other, n, some)

    def check(self, one, other, n, numbers):
        if not beside_by_letters(one, other, n):
            self.refused(NoProduct, times, one, other)
            self.refused(NoProduct, times, other, one)
            return
        product = times(one, other)
        self.assertEqual(checked_row(product, n), product)
        self.assertEqual(times(other, one), product)
        for number in numbers:
            reached = done(product, number, n)
            self.assertEqual(reached, done_both(one, other, number, n), (one, other))
            self.assertEqual(reached, done_both(other, one, number, n), (one, other))

    def test_a_row_times_itself(self):
        for row in all_rows(3):
            self.assertEqual(times(row, row), (0, 0, 0), row)
        chance = random.Random(8)
        for n in SOME_N:
            row = random_row(chance, n)
            self.assertEqual(times(row, row), (0, 0, 0), row)
        full = (1 << 40) - 1
        self.assertEqual(times((1, full, full), (1, full, full)), (0, 0, 0))

    def test_a_row_times_the_one_without_letters(self):
        for row in all_rows(2):
            self.assertEqual(times(row, (0, 0, 0)), row)
            self.assertEqual(times((1, 0, 0), row), (1 - row[0], row[1], row[2]))

    def test_a_row_times_its_minus(self):
        for row in all_rows(2):
            self.assertEqual(times(row, (1 - row[0], row[1], row[2])), (1, 0, 0))

    def test_forty_wires_full_of_letters(self):
        full = (1 << 40) - 1
        # x and z at one wire make y by a factor of i or -i: forty of them come to 1.
        self.assertEqual(times((0, full, 0), (0, 0, full)), (0, full, full))
        self.assertEqual(times((0, full, full), (1, full, 0)), (1, 0, full))

    def test_the_arguments_have_their_names(self):
        self.assertEqual(times(one=(0, 1, 0), other=(1, 1, 0)), (1, 0, 0))


class LettersOf(unittest.TestCase):
    def test_each_letter(self):
        self.assertEqual(letters_of((0, 0, 0), 1), "+.")
        self.assertEqual(letters_of((0, 1, 0), 1), "+x")
        self.assertEqual(letters_of((0, 1, 1), 1), "+y")
        self.assertEqual(letters_of((0, 0, 1), 1), "+z")
        self.assertEqual(letters_of((1, 0, 0), 1), "-.")
        self.assertEqual(letters_of((1, 1, 1), 1), "-y")

    def test_the_documents_own(self):
        self.assertEqual(letters_of((0, 0b1001, 0b1100), 4), "+x.zy")

    def test_wires_without_a_letter_are_points(self):
        self.assertEqual(letters_of((1, 1, 0), 5), "-x....")
        self.assertEqual(letters_of((0, 0, 1 << 39), 40), "+" + "." * 39 + "z")

    def test_the_arguments_have_their_names(self):
        self.assertEqual(letters_of(row=(0, 1, 0), n=2), "+x.")


class RowOf(Refusing):
    def test_each_letter(self):
        self.assertEqual(row_of("+."), (0, 0, 0))
        self.assertEqual(row_of("-x"), (1, 1, 0))
        self.assertEqual(row_of("+y"), (0, 1, 1))
        self.assertEqual(row_of("-z"), (1, 0, 1))

    def test_the_documents_own(self):
        self.assertEqual(row_of("+x.zy"), (0, 0b1001, 0b1100))

    def test_forty_wires(self):
        full = (1 << 40) - 1
        self.assertEqual(row_of("+" + "." * 40), (0, 0, 0))
        self.assertEqual(row_of("-" + "y" * 40), (1, full, full))
        self.assertEqual(row_of("+" + "x" * 39 + "z"), (0, full >> 1, 1 << 39))

    def test_what_is_written_is_read(self):
        chance = random.Random(9)
        for n in range(1, 41):
            for row in [random_row(chance, n) for turn in range(5)] + [(0, 0, 0), (1, 0, 0)]:
                self.check(row, n)
        for n in (1, 2, 3):
            for row in all_rows(n):
                self.check(row, n)

    def check(self, row, n):
        text = letters_of(row, n)
        expected = "+-"[row[0]] + "".join(letter_at(row, k) or "." for k in range(n))
        self.assertEqual(text, expected)
        told = row_of(text)
        self.assertEqual(told, row)
        self.assertEqual([type(told)] + [type(part) for part in told], [tuple, int, int, int])

    def test_refuses_texts_without_sign_or_letters(self):
        for text in ("", "+", "-", "x", ".", "xyz", "x.zy", ".+x", "x+", "y-"):
            self.refused(NoText, row_of, text)

    def test_refuses_more_than_forty(self):
        for sign in "+-":
            for letter in ".xyz":
                for many in (41, 42, 80, 1000):
                    self.refused(NoText, row_of, sign + letter * many)
        self.refused(NoText, row_of, "x" * 40)
        self.refused(NoText, row_of, "x" * 41)

    def test_refuses_other_signs(self):
        signs = ["X", "Y", "Z", "+", "-", "*", "0", "1", "i", "a", "w", ",", ":", "_", "\0", "\t", "\r",
                 "\u0445", "\u2024", "\uff58", "\u0443", "\ud800"]
        for sign in signs:
            for text in ("+" + sign, "-" + sign, "+x" + sign, "+" + sign + "x", "-x" + sign + "z"):
                self.refused(NoText, row_of, text)
        for ahead in ("\u2212", "\uff0b", "+-", "-+", "++", "--"):
            self.refused(NoText, row_of, ahead + "x")

    def test_every_plain_sign_in_each_place(self):
        for sign in [chr(number) for number in range(256)]:
            if sign not in "+-":
                self.refused(NoText, row_of, sign + "x")
            if sign not in ".xyz":
                self.refused(NoText, row_of, "+" + sign)

    def test_refuses_blanks_and_line_feeds_anywhere(self):
        for text in ("+x.zy", "-z", "+" + "." * 38):
            for k in range(len(text) + 1):
                for blank in (" ", "\n", "\t", "\r\n", "\u00a0"):
                    self.refused(NoText, row_of, text[:k] + blank + text[k:])
        for text in (" ", "\n", "+ ", "+\n", "+x\n+z"):
            self.refused(NoText, row_of, text)

    def test_refuses_what_is_no_text(self):
        things = (None, 0, 1, True, 1.5, (0, 1, 0), ("+", "x"), ["+", "x"], [], {}, {"+": "x"}, {"+", "x"},
                  b"+x", bytearray(b"+x"), row_of, object(), str)
        for thing in things:
            self.refused(NoText, row_of, thing)

    def test_the_argument_has_its_name(self):
        self.assertEqual(row_of(text="-x"), (1, 1, 0))


if __name__ == "__main__":
    unittest.main()
