"""Points 8 to 11: deeds, their words, what they make of wholes and of rows, and their undoing."""

import random
import unittest

from helpers import (DEEDS, Refusing, all_deeds, all_rows, by_deed, by_row, letter_at, random_deed, random_row,
                     random_whole, row_of_letters, same_by_a_factor, where_row)

from twinwires import deeds
from twinwires.deeds import Deed, deed_of
from twinwires.errors import NoDeed, NoWire

CLASSES = {"over": "Over", "quarter": "Quarter", "back": "Back", "both": "Both", "where": "Where", "swap": "Swap"}


class Classes(unittest.TestCase):
    def test_each_stands_under_deed_and_under_no_other_one(self):
        kinds = [getattr(deeds, name) for name in CLASSES.values()]
        for kind in kinds:
            self.assertTrue(issubclass(kind, Deed))
            self.assertEqual([other for other in kinds if issubclass(kind, other)], [kind])


class DeedOf(Refusing):
    def test_each_word_on_one_to_forty_wires(self):
        for n in range(1, 41):
            for word, many in DEEDS.items():
                if many == 1:
                    places = [(0,), (n - 1,)]
                else:
                    places = [(0, n - 1), (n - 1, 0)] if n > 1 else []
                for at in places:
                    self.check((word,) + at, n)

    def test_every_deed_of_few_wires(self):
        for n in (1, 2, 3, 4):
            for words in all_deeds(n):
                self.check(words, n)

    def check(self, words, n):
        deed = deed_of(words, n)
        self.assertIs(type(deed), getattr(deeds, CLASSES[words[0]]))
        self.assertIsInstance(deed, Deed)
        self.assertEqual(deed.words(), words)
        self.assertIs(type(deed.words()), tuple)
        self.assertEqual(deed.wires(), list(words[1:]))
        self.assertIs(type(deed.wires()), list)

    def test_a_told_list_is_the_askers_own(self):
        deed = deed_of(("where", 2, 0), 3)
        deed.wires().append(5)
        deed.wires().reverse()
        deed.undoing().clear()
        self.assertEqual(deed.wires(), [2, 0])
        self.assertEqual(deed.undoing(), [("where", 2, 0)])
        self.assertEqual(deed.words(), ("where", 2, 0))

    def test_refuses_other_words(self):
        for word in ("", "Over", "OVER", "over ", " over", "ove", "overs", "look", "not", "x", "swap\n", "wheres"):
            for at in ((), (0,), (0, 1), (0, 1, 2), (-1,), (0, 99)):
                self.refused(NoDeed, deed_of, (word,) + at, 3)

    def test_refuses_words_of_other_kinds(self):
        for word in (None, 0, 1, True, 1.5, b"over", [], ["over"], ("over",), {}, {"over": 1}, set(), object(), str):
            for at in ((0,), (0, 1)):
                self.refused(NoDeed, deed_of, (word,) + at, 3)

    def test_refuses_too_many_or_too_few_wires(self):
        for word, many in DEEDS.items():
            for at in ((), (0,), (0, 1), (0, 1, 2), (0, 1, 2, 0), (0, None), (0, 0)):
                if len(at) != many:
                    self.refused(NoDeed, deed_of, (word,) + at, 3)

    def test_refuses_alike_wires(self):
        for n in (1, 2, 3, 40):
            for word in ("where", "swap"):
                for k in (0, 1, n - 1):
                    self.refused(NoDeed, deed_of, (word, k, k), n)

    def test_alike_wires_that_are_no_wires_are_no_deed(self):
        for word in ("where", "swap"):
            for k in (-1, -5, 3, 4, 99, 10 ** 60, -(10 ** 60)):
                self.refused(NoDeed, deed_of, (word, k, k), 3)

    def test_refuses_places_that_are_no_whole_numbers(self):
        for thing in (True, False, None, "0", "1", "", 0.0, 1.0, 1j, b"0", [], [0], (0,), (), {}, {0: 0}, object(), int):
            for word, many in DEEDS.items():
                if many == 1:
                    self.refused(NoDeed, deed_of, (word, thing), 3)
                else:
                    for at in ((thing, 0), (2, thing), (thing, thing), (thing, 99), (-1, thing)):
                        self.refused(NoDeed, deed_of, (word,) + at, 3)

    def test_refuses_things_that_are_no_tuple(self):
        for thing in (None, 0, 1, True, 1.5, "", "over", "over 0", b"over", [], ["over", 0], ["swap", 0, 1], {},
                      {"over": 0}, {"over", 0}, range(2), object(), deed_of, Deed, deed_of(("over", 0), 1)):
            for n in (1, 3, 40):
                self.refused(NoDeed, deed_of, thing, n)

    def test_refuses_other_tuples(self):
        for thing in ((), ("over",), (0, "over"), (("over", 0),), ("look", 1, 0), ("over", 0, "over", 0), (0,), (0, 1)):
            self.refused(NoDeed, deed_of, thing, 3)

    def test_refuses_numbers_that_are_no_wires(self):
        for n in (1, 2, 3, 6, 7, 39, 40):
            for k in (-1, -2, -n, -(10 ** 60), n, n + 1, n + 40, 10 ** 60, 1 << 200):
                for word, many in DEEDS.items():
                    if many == 1:
                        self.refused(NoWire, deed_of, (word, k), n)
                    else:
                        for at in ((k, 0), (0, k), (k, n + 2), (-3, k)):
                            if at[0] != at[1]:
                                self.refused(NoWire, deed_of, (word,) + at, n)

    def test_the_arguments_have_their_names(self):
        deed = deed_of(words=("over", 0), n=1)
        self.assertEqual(deed.on_row(row=(0, 0, 1)), (1, 0, 1))
        self.assertEqual(deed.on_whole(whole={0: (1, 0)}), {1: (1, 0)})


class OnWhole(unittest.TestCase):
    def test_the_documents_words_on_one_wire(self):
        up, down, mixed = {0: (2, 3)}, {1: (2, 3)}, {0: (5, 7), 1: (2, 3)}
        for words, of_up, of_down, of_mixed in (
                (("over", 0), {1: (2, 3)}, {0: (2, 3)}, {1: (5, 7), 0: (2, 3)}),
                (("quarter", 0), {0: (2, 3)}, {1: (-3, 2)}, {0: (5, 7), 1: (-3, 2)}),
                (("back", 0), {0: (2, 3)}, {1: (3, -2)}, {0: (5, 7), 1: (3, -2)}),
                (("both", 0), {0: (2, 3), 1: (2, 3)}, {0: (2, 3), 1: (-2, -3)}, {0: (7, 10), 1: (3, 4)})):
            deed = deed_of(words, 1)
            self.assertEqual(deed.on_whole(up), of_up, words)
            self.assertEqual(deed.on_whole(down), of_down, words)
            self.assertEqual(deed.on_whole(mixed), of_mixed, words)

    def test_the_documents_words_on_two_wires(self):
        whole = {0: (1, 0), 1: (2, 0), 2: (3, 0), 3: (4, 5)}
        for words, told in (
                (("where", 0, 1), {0: (1, 0), 3: (2, 0), 2: (3, 0), 1: (4, 5)}),
                (("where", 1, 0), {0: (1, 0), 1: (2, 0), 3: (3, 0), 2: (4, 5)}),
                (("swap", 0, 1), {0: (1, 0), 2: (2, 0), 1: (3, 0), 3: (4, 5)}),
                (("swap", 1, 0), {0: (1, 0), 2: (2, 0), 1: (3, 0), 3: (4, 5)})):
            self.assertEqual(deed_of(words, 2).on_whole(whole), told, words)

    def test_every_deed_of_one_to_six_wires(self):
        chance = random.Random(9)
        for n in range(1, 7):
            for words in all_deeds(n):
                for figures in (1, 40):
                    self.check(words, random_whole(chance, n, figures), n)
                self.check(words, random_whole(chance, n, 1, 1 << n), n)

    def check(self, words, whole, n):
        before = dict(whole)
        told = deed_of(words, n).on_whole(whole)
        self.assertEqual(told, by_deed(words, whole), words)
        self.assertEqual(whole, before)
        self.assertIs(type(told), dict)
        self.assertNotIn((0, 0), told.values())
        for b, pair in told.items():
            self.assertEqual([type(b), type(pair), type(pair[0]), type(pair[1])], [int, tuple, int, int])

    def test_numbers_that_cancel_out_are_left_out(self):
        much = 10 ** 40 - 1
        for n in range(1, 7):
            for k in range(n):
                both = deed_of(("both", k), n)
                bit = 1 << k
                self.assertEqual(both.on_whole({0: (1, much), bit: (1, much)}), {0: (2, 2 * much)})
                self.assertEqual(both.on_whole({0: (1, -much), bit: (-1, much)}), {bit: (2, -2 * much)})
                self.assertEqual(both.on_whole(both.on_whole({0: (3, 1)})), {0: (6, 2)})
                # One part alone cancels out.
                self.assertEqual(both.on_whole({0: (1, 2), bit: (-1, 2)}), {0: (0, 4), bit: (2, 0)})

    def test_what_is_told_is_the_askers_own(self):
        chance = random.Random(10)
        for n in (1, 2, 4):
            for words in all_deeds(n):
                deed = deed_of(words, n)
                whole = random_whole(chance, n, 3)
                before = dict(whole)
                told = deed.on_whole(whole)
                again = dict(told)
                told.clear()
                told[0] = (99, 99)
                self.assertEqual(whole, before)
                self.assertEqual(deed.on_whole(whole), again)
                later = deed.on_whole(whole)
                whole.clear()
                self.assertEqual(later, again)

    def test_a_deed_without_effect_tells_a_new_dict_too(self):
        whole = {0: (1, 0)}
        for words in (("quarter", 0), ("back", 1), ("where", 0, 1), ("swap", 0, 1)):
            told = deed_of(words, 2).on_whole(whole)
            self.assertEqual(told, whole)
            self.assertIsNot(told, whole)


class OnRow(unittest.TestCase):
    def test_the_documents_words_on_one_wire(self):
        told = {"over": {"x": "+x", "y": "-y", "z": "-z"}, "quarter": {"x": "+y", "y": "-x", "z": "+z"},
                "back": {"x": "-y", "y": "+x", "z": "+z"}, "both": {"x": "+z", "y": "-y", "z": "+x"}}
        for n in (1, 2, 40):
            for k in (0, n - 1):
                for word, by_letter in told.items():
                    for letter, (sign, becomes) in by_letter.items():
                        for minus in (0, 1):
                            row = row_of_letters(minus, {k: letter})
                            expected = row_of_letters(minus ^ "+-".index(sign), {k: becomes})
                            self.assertEqual(deed_of((word, k), n).on_row(row), expected, (word, letter))

    def test_each_pair_of_letters_at_two_wires(self):
        for n in (2, 3, 40):
            for j, k in ((0, n - 1), (n - 1, 0)):
                for a in ("", "x", "y", "z"):
                    for b in ("", "x", "y", "z"):
                        for minus in (0, 1):
                            row = row_of_letters(minus, {j: a, k: b})
                            self.assertEqual(deed_of(("where", j, k), n).on_row(row), where_row(row, j, k))
                            swapped = row_of_letters(minus, {j: b, k: a})
                            self.assertEqual(deed_of(("swap", j, k), n).on_row(row), swapped)

    def test_the_row_and_the_deed_do_what_the_deed_and_the_row_told_do(self):
        chance = random.Random(11)
        for n in (1, 2):
            for words in all_deeds(n):
                for row in all_rows(n):
                    # Each single number, as the numbers of a whole don't mix.
                    for b in range(1 << n):
                        self.check(words, row, {b: (1, 0)}, n)
                    self.check(words, row, random_whole(chance, n, 20, 1 << n), n)

    def test_each_pair_of_letters_among_other_wires(self):
        chance = random.Random(12)
        for n in (3, 4, 5, 6):
            for words in all_deeds(n):
                for minus in (0, 1):
                    for letters in range(4 ** len(words[1:])):
                        row = list(random_row(chance, n))
                        row[0] = minus
                        for place, k in enumerate(words[1:]):
                            row[1] = row[1] & ~(1 << k) | (letters >> 2 * place & 1) << k
                            row[2] = row[2] & ~(1 << k) | (letters >> 2 * place + 1 & 1) << k
                        self.check(words, tuple(row), random_whole(chance, n, 5, 3), n)

    def check(self, words, row, whole, n):
        deed = deed_of(words, n)
        told = deed.on_row(row)
        self.assertEqual([type(told)] + [type(part) for part in told], [tuple, int, int, int])
        self.assertIn(told[0], (0, 1))
        one = by_deed(words, by_row(row, whole, n))
        other = by_row(told, by_deed(words, whole), n)
        self.assertEqual(one, other, (words, row))

    def test_letters_at_other_wires_stay(self):
        chance = random.Random(13)
        for n in list(range(2, 41)):
            for turn in range(20):
                words = random_deed(chance, n)
                row = random_row(chance, n)
                told = deed_of(words, n).on_row(row)
                for k in range(n):
                    if k not in words[1:]:
                        self.assertEqual(letter_at(told, k), letter_at(row, k))
                # With the other wires' letters taken away, minus turns over just so.
                mask = sum(1 << k for k in words[1:])
                alone = deed_of(words, n).on_row((row[0], row[1] & mask, row[2] & mask))
                self.assertEqual(alone, (told[0], told[1] & mask, told[2] & mask))
                self.assertLess(max(told[1], told[2]), 1 << n)


class Undoing(unittest.TestCase):
    def test_by_which_words(self):
        for n in (3, 40):
            for k in (0, n - 1):
                self.assertEqual(deed_of(("quarter", k), n).undoing(), [("back", k)])
                self.assertEqual(deed_of(("back", k), n).undoing(), [("quarter", k)])
                self.assertEqual(deed_of(("over", k), n).undoing(), [("over", k)])
                self.assertEqual(deed_of(("both", k), n).undoing(), [("both", k)])
                self.assertEqual(deed_of(("where", k, 1), n).undoing(), [("where", k, 1)])
                self.assertEqual(deed_of(("swap", 1, k), n).undoing(), [("swap", 1, k)])

    def test_each_deed_and_its_undoing_leave_rows_and_wholes(self):
        chance = random.Random(14)
        for n in (1, 2, 3, 6):
            for words in all_deeds(n):
                whole = random_whole(chance, n, 20)
                row = random_row(chance, n)
                behind = deed_of(words, n).on_whole(whole)
                row_behind = deed_of(words, n).on_row(row)
                undoing = deed_of(words, n).undoing()
                self.assertIs(type(undoing), list)
                for undoer in undoing:
                    behind = deed_of(undoer, n).on_whole(behind)
                    row_behind = deed_of(undoer, n).on_row(row_behind)
                self.assertEqual(row_behind, row)
                self.assertTrue(same_by_a_factor(whole, behind), words)
                if words[0] == "both":
                    self.assertEqual(behind, {b: (2 * re, 2 * im) for b, (re, im) in whole.items()})
                else:
                    self.assertEqual(behind, whole)


if __name__ == "__main__":
    unittest.main()
