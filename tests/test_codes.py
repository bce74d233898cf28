"""Points 42 to 47: codes that mend."""

import itertools
import random
import unittest

from helpers import (DEEDS, Refusing, all_products, all_rows, beside_by_letters, by_row, by_work, letter_at, minus_of,
                     product, random_pair, random_row, random_rows_of_whole, random_whole, same_by_a_factor)

from twinwires.codes import Code, deeds_of
from twinwires.errors import NoCode, NoMend


def read(text):
    xs = sum(1 << k for k, sign in enumerate(text) if sign in "xy")
    zs = sum(1 << k for k, sign in enumerate(text) if sign in "zy")
    return (0, xs, zs)


FIVE = [read(text) for text in ("xzzx.", ".xzzx", "x.xzz", "zx.xz")]
SEVEN = [read(text) for text in ("...xxxx", ".xx..xx", "x.x.x.x", "...zzzz", ".zz..zz", "z.z.z.z")]
NINE = [read(text) for text in ("zz.......", ".zz......", "...zz....", "....zz...", "......zz.", ".......zz",
                                "xxxxxx...", "...xxxxxx")]
THREE = [read(text) for text in ("zz.", ".zz")]
FOUR = [read(text) for text in ("xxxx", "zzzz")]


def weight(row):
    return sum(1 for k in range(9) if letter_at(row, k))


def wrongs(n, many):
    return [(0, xs, zs) for xs in range(1 << n) for zs in range(1 << n) if weight((0, xs, zs)) <= many]


def wrongs_built(n, many):
    """The same, for more wires: letters put at each choice of wires."""
    told = []
    for size in range(many + 1):
        for wires in itertools.combinations(range(n), size):
            for letters in itertools.product("xyz", repeat=size):
                text = ["."] * n
                for k, letter in zip(wires, letters):
                    text[k] = letter
                told.append(read("".join(text)))
    return told


def signs_of(rows, wrong, n):
    return [0 if beside_by_letters(row, wrong, n) else 1 for row in rows]


def harmless_letters(rows, n):
    return {row[1:] for row in all_products(rows, n)}


def together(one, other):
    return (0, one[1] ^ other[1], one[2] ^ other[2])


def random_code(chance, n):
    return random_rows_of_whole(chance, n)[:chance.randint(0, n)]


class TheCode(Refusing):
    def test_tells_its_wires_and_rows(self):
        chance = random.Random(42)
        for n in range(1, 10):
            for many in range(n + 1):
                rows = random_rows_of_whole(chance, n)[:many]
                before = list(rows)
                code = Code(n, rows)
                self.assertEqual(code.wires(), n)
                self.assertIs(type(code.wires()), int)
                self.assertEqual(code.rows(), before)
                self.assertIs(type(code.rows()), list)
                self.assertEqual(rows, before)

    def test_lists_changed_behind_change_nothing(self):
        rows = list(THREE)
        code = Code(3, rows)
        rows.clear()
        rows.append((0, 7, 0))
        self.assertEqual(code.rows(), THREE)
        self.assertEqual(code.signs(read("x..")), [1, 0])
        self.assertIs(code.harmless(read("zz.")), True)
        told = code.rows()
        told.reverse()
        told.clear()
        self.assertEqual(code.rows(), THREE)
        self.assertEqual(code.signs(read("x..")), [1, 0])
        told = code.signs(read("x.."))
        told.clear()
        self.assertEqual(code.signs(read("x..")), [1, 0])

    def test_refuses_numbers_of_wires(self):
        for n in (0, 10, 11, 40, -1, -9, 10 ** 60, True, False, None, "", "1", 1.0, [], [1], (1,), {}, b"1", object(), int):
            self.refused(NoCode, Code, n, [])
            self.refused(NoCode, Code, n, [(0, 0, 1)])
        self.refused(NoCode, Code, 10, [(0, 1 << k, 0) for k in range(9)])

    def test_refuses_what_is_no_list(self):
        for thing in (None, 0, 1, True, "", "+zz.", (), tuple(THREE), (0, 0, 1), {}, {0: (0, 0, 1)}, {(0, 0, 1)}, object()):
            self.refused(NoCode, Code, 3, thing)

    def test_refuses_what_is_no_row(self):
        for thing in (None, 0, True, "+zz.", [], [0, 0, 3], (), (0, 3), (0, 0, 3, 0), (2, 0, 3), (-1, 0, 3), (0, 8, 0),
                      (0, 0, 8), (1, 10 ** 60, 0), (0, -1, 0), (0, True, 0), (False, 0, 1), (0, None, 0), (0, "x", 0), {},
                      (0, 1.0, 0), object()):
            self.refused(NoCode, Code, 3, [thing])
            self.refused(NoCode, Code, 3, [THREE[0], thing])
            self.refused(NoCode, Code, 3, [thing, THREE[0]])

    def test_refuses_a_row_without_letters(self):
        for n in range(1, 10):
            for row in ((0, 0, 0), (1, 0, 0)):
                self.refused(NoCode, Code, n, [row])
                self.refused(NoCode, Code, n, [(0, 1, 0), row])
                self.refused(NoCode, Code, n, [row, (0, 0, 1)])

    def test_refuses_too_many_rows(self):
        chance = random.Random(43)
        for n in range(1, 10):
            rows = random_rows_of_whole(chance, n)
            for more in (rows[0], minus_of(rows[0]), product(rows[0], rows[-1], n), (0, 0, 0), (0, 1, 0), (0, 0, 1)):
                self.refused(NoCode, Code, n, rows + [more])
            self.refused(NoCode, Code, n, rows + rows)

    def test_refuses_rows_that_dont_go_beside_one_another(self):
        chance = random.Random(44)
        self.refused(NoCode, Code, 1, [(0, 1, 0), (0, 0, 1)])
        for n in range(2, 10):
            for turn in range(5):
                one, other = random_pair(chance, n, False)
                self.refused(NoCode, Code, n, [one, other])
                self.refused(NoCode, Code, n, [other, one])
                rows = random_rows_of_whole(chance, n)[:n - 1]
                crossing = random_row(chance, n)
                while all(beside_by_letters(crossing, row, n) for row in rows):
                    crossing = random_row(chance, n)
                self.refused(NoCode, Code, n, rows + [crossing])

    def test_refuses_the_letters_of_a_product_of_others(self):
        chance = random.Random(45)
        for n in range(2, 10):
            for turn in range(5):
                rows = random_rows_of_whole(chance, n)[:n - 1]
                some = chance.sample(rows, chance.randint(1, n - 1))
                made = (0, 0, 0)
                for row in some:
                    made = product(made, row, n)
                for row in (made, minus_of(made)):
                    wrong = rows + [row]
                    chance.shuffle(wrong)
                    before = list(wrong)
                    self.refused(NoCode, Code, n, wrong)
                    self.assertEqual(wrong, before)

    def test_the_arguments_have_their_names(self):
        code = Code(n=3, rows=THREE)
        self.assertEqual(code.signs(wrong=(0, 1, 0)), [1, 0])
        self.assertIs(code.harmless(wrong=(0, 1, 0)), False)
        self.assertIsNone(code.parting_wrongs(many=0))
        self.assertEqual(code.guess(signs=[0, 0], many=1), (0, 0, 0))


class SignsAndHarm(unittest.TestCase):
    def test_by_hand(self):
        code = Code(3, THREE)
        for text, signs, harmless in (("...", [0, 0], True), ("x..", [1, 0], False), (".x.", [1, 1], False),
                                      ("..x", [0, 1], False), ("z..", [0, 0], False), ("zz.", [0, 0], True),
                                      ("z.z", [0, 0], True), ("y..", [1, 0], False), ("xxx", [0, 0], False)):
            self.assertEqual(code.signs(read(text)), signs)
            self.assertIs(code.harmless(read(text)), harmless)

    def test_every_wrong_of_small_codes(self):
        chance = random.Random(46)
        for n in (1, 2, 3, 4):
            for turn in range(8):
                rows = random_code(chance, n)
                code = Code(n, rows)
                harmless = harmless_letters(rows, n)
                for xs in range(1 << n):
                    for zs in range(1 << n):
                        told = code.signs((0, xs, zs))
                        self.assertEqual(told, signs_of(rows, (0, xs, zs), n))
                        self.assertEqual({type(sign) for sign in told} | {int}, {int})
                        self.assertIs(code.harmless((0, xs, zs)), (xs, zs) in harmless)

    def test_the_code_without_rows(self):
        for n in (1, 5, 9):
            code = Code(n, [])
            self.assertEqual(code.signs((0, 1, 1)), [])
            self.assertIs(code.harmless((0, 0, 0)), True)
            self.assertIs(code.harmless((0, 0, 1)), False)

    def test_some_wrongs_of_large_codes(self):
        chance = random.Random(47)
        for rows, n in ((FIVE, 5), (SEVEN, 7), (NINE, 9)):
            code = Code(n, rows)
            harmless = harmless_letters(rows, n)
            for turn in range(60):
                wrong = (0, chance.getrandbits(n), chance.getrandbits(n))
                self.assertEqual(code.signs(wrong), signs_of(rows, wrong, n))
                self.assertIs(code.harmless(wrong), wrong[1:] in harmless)
            for xs, zs in chance.sample(sorted(harmless), 10):
                self.assertIs(code.harmless((0, xs, zs)), True)
                self.assertEqual(code.signs((0, xs, zs)), [0] * len(rows))


def parts_by_words(rows, many, n):
    """Points 44 and 45: whether any two wrongs so light look alike and part."""
    harmless = harmless_letters(rows, n)
    by_signs = {}
    for wrong in wrongs_built(n, many):
        by_signs.setdefault(tuple(signs_of(rows, wrong, n)), []).append(wrong)
    return any(together(one, other)[1:] not in harmless
               for alike in by_signs.values() for one in alike for other in alike)


class PartingWrongs(unittest.TestCase):
    def check(self, rows, many, n, parts):
        code = Code(n, rows)
        told = code.parting_wrongs(many)
        if not parts:
            self.assertIsNone(told, (rows, many))
            return
        self.assertIs(type(told), tuple)
        one, other, row = told
        for wrong in (one, other, row):
            self.assertEqual([type(wrong)] + [type(part) for part in wrong], [tuple, int, int, int])
            self.assertTrue(0 <= wrong[1] < 1 << n and 0 <= wrong[2] < 1 << n)
        for wrong in (one, other):
            self.assertEqual(wrong[0], 0)
            self.assertLessEqual(weight(wrong), many)
        self.assertEqual(signs_of(rows, one, n), signs_of(rows, other, n))
        self.assertNotIn(together(one, other)[1:], harmless_letters(rows, n))
        self.assertIn(row[0], (0, 1))
        self.assertEqual(signs_of(rows, row, n), [0] * len(rows))
        self.assertNotEqual(beside_by_letters(row, one, n), beside_by_letters(row, other, n))

    def test_codes_that_mend_one_letter(self):
        for rows, n in ((FIVE, 5), (SEVEN, 7), (NINE, 9)):
            self.check(rows, 0, n, False)
            self.check(rows, 1, n, False)
            self.check(rows, 2, n, True)
            with_minus = [minus_of(row) if k % 2 else row for k, row in enumerate(rows)]
            self.check(with_minus, 1, n, False)
            self.check(with_minus, 2, n, True)

    def test_codes_that_dont(self):
        for rows, n in ((THREE, 3), (FOUR, 4), ([], 1), ([], 9), (FIVE[:3], 5), (SEVEN[:5], 7), (NINE[:7], 9),
                        (NINE[1:], 9)):
            self.check(rows, 0, n, False)
            self.check(rows, 1, n, True)
            self.check(rows, 2, n, True)

    def test_codes_with_as_many_rows_as_wires_mend_all(self):
        # Wrongs that look alike there are alike but for what is harmless.
        chance = random.Random(48)
        for n in range(1, 10):
            rows = random_rows_of_whole(chance, n)
            for many in (0, 1, 2):
                self.check(rows, many, n, False)

    def test_small_codes_against_every_two_wrongs(self):
        chance = random.Random(49)
        for n in (1, 2, 3, 4, 5):
            for turn in range(12):
                rows = random_code(chance, n)
                for many in (0, 1, 2):
                    self.check(rows, many, n, parts_by_words(rows, many, n))

    def test_large_codes(self):
        chance = random.Random(50)
        for n in (6, 7, 8, 9):
            for turn in range(4):
                rows = random_rows_of_whole(chance, n)[:n - 1]
                for many in (1, 2):
                    self.check(rows, many, n, parts_by_words(rows, many, n))


class Guess(Refusing):
    def check(self, rows, signs, many, n):
        code = Code(n, rows)
        before = list(signs)
        right = [wrong for wrong in wrongs_built(n, many) if signs_of(rows, wrong, n) == signs]
        if not right:
            self.refused(NoMend, code.guess, signs, many)
        else:
            told = code.guess(signs, many)
            self.assertIn(told, right)
            self.assertEqual([type(told)] + [type(part) for part in told], [tuple, int, int, int])
            self.assertEqual(weight(told), min(weight(wrong) for wrong in right))
        self.assertEqual(signs, before)
        return bool(right)

    def test_every_list_of_signs_of_small_codes(self):
        chance = random.Random(51)
        found = []
        for n in (1, 2, 3, 4):
            for turn in range(6):
                rows = random_code(chance, n)
                for signs in itertools.product((0, 1), repeat=len(rows)):
                    for many in (0, 1, 2):
                        found.append(self.check(rows, list(signs), many, n))
        self.assertIn(True, found)
        self.assertIn(False, found)

    def test_codes_that_mend_one_letter(self):
        for rows, n in ((FIVE, 5), (SEVEN, 7), (NINE, 9)):
            code = Code(n, rows)
            for wrong in wrongs_built(n, 1):
                told = code.guess(code.signs(wrong), 1)
                self.assertLessEqual(weight(told), weight(wrong))
                self.assertEqual(code.signs(told), code.signs(wrong))
                self.assertIs(code.harmless(together(told, wrong)), True)

    def test_every_list_of_signs_of_five_wires(self):
        for signs in itertools.product((0, 1), repeat=4):
            for many in (0, 1, 2):
                self.check(FIVE, list(signs), many, 5)

    def test_by_hand(self):
        code = Code(3, THREE)
        self.assertEqual(code.guess([0, 0], 0), (0, 0, 0))
        self.assertEqual(code.guess([0, 0], 2), (0, 0, 0))
        self.refused(NoMend, code.guess, [1, 0], 0)
        self.assertIn(code.guess([1, 0], 1), (read("x.."), read("y..")))
        self.assertEqual(Code(9, []).guess([], 2), (0, 0, 0))
        # Of seven wires some signs need two letters.
        signs = Code(7, SEVEN).signs(read("xz....."))
        self.refused(NoMend, Code(7, SEVEN).guess, Code(7, SEVEN).signs(read("xz.....")), 0)
        self.assertEqual(weight(Code(7, SEVEN).guess(signs, 2)), 2)
        self.refused(NoMend, Code(7, SEVEN).guess, signs, 1)


class DeedsOf(unittest.TestCase):
    def check(self, row, n, chance):
        told = deeds_of(row)
        self.assertIs(type(told), list)
        self.assertLessEqual(len(told), 3 * sum(1 for k in range(n) if letter_at(row, k)))
        for words in told:
            self.assertIs(type(words), tuple)
            self.assertEqual(len(words), 1 + DEEDS[words[0]])
        if n < 7:
            # One factor for all of a whole: every number by itself would hide a factor of its own.
            whole = random_whole(chance, n, 3, 1 << n)
            self.assertTrue(same_by_a_factor(by_row(row, whole, n), by_work(told, whole)), row)

    def test_each_letter(self):
        chance = random.Random(52)
        for n in (1, 2, 6):
            for k in range(n):
                for bits in ((1, 0), (0, 1), (1, 1)):
                    for minus in (0, 1):
                        self.check((minus, bits[0] << k, bits[1] << k), n, chance)

    def test_without_letters(self):
        self.assertEqual(deeds_of((0, 0, 0)), [])
        self.assertEqual(deeds_of((1, 0, 0)), [])

    def test_every_row_of_few_wires(self):
        chance = random.Random(53)
        for n in (1, 2, 3):
            for row in all_rows(n):
                self.check(row, n, chance)

    def test_several_letters(self):
        chance = random.Random(54)
        for n in (4, 5, 6, 9, 40):
            for turn in range(10):
                self.check(random_row(chance, n), n, chance)
            full = (1 << n) - 1
            self.check((1, full, full), n, chance)

    def test_what_is_told_is_the_askers_own(self):
        deeds_of((0, 1, 1)).clear()
        self.assertLessEqual(len(deeds_of((0, 1, 1))), 3)
        self.assertNotEqual(deeds_of((0, 1, 1)), [])

    def test_the_argument_has_its_name(self):
        self.assertEqual(deeds_of(row=(0, 0, 0)), [])


class Weights(unittest.TestCase):
    def test_the_wrongs_of_these_tests(self):
        for n in (1, 2, 3, 4):
            for many in (0, 1, 2):
                self.assertEqual(sorted(wrongs(n, many)), sorted(wrongs_built(n, many)))


if __name__ == "__main__":
    unittest.main()
