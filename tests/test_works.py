"""Point 12: works, what rows become by them, and their undoing."""

import random
import unittest

from helpers import Refusing, all_rows, by_row, by_work, random_row, random_whole, random_work, same_by_a_factor

from twinwires.deeds import deed_of
from twinwires.errors import NoDeed, NoWire
from twinwires.works import row_behind, undone

LENGTHS = (0, 1, 2, 3, 10, 40, 79, 80)
WRONG = [("over",), ("look", 1, 0), ("Over", 0), ["over", 0], None, 7, "over 0", (), ("where", 1, 1), ("swap", 9, 9),
         ("over", True), ("over", None), ("quarter", "0"), ("over", 0, 1)]
BEYOND = [("over", 3), ("over", -1), ("where", 0, 3), ("swap", 10 ** 60, 0), ("both", 41), ("back", -(10 ** 60))]


class RowBehind(Refusing):
    def test_the_work_without_deeds(self):
        for n in (1, 2, 40):
            row = (1, 1, (1 << n) - 1)
            self.assertEqual(row_behind([], row, n), row)

    def test_by_hand(self):
        # x at wire 0 becomes z, then z at both wires.
        self.assertEqual(row_behind([("both", 0), ("where", 1, 0)], (0, 1, 0), 2), (0, 0, 3))
        self.assertEqual(row_behind([("over", 0), ("both", 0)], (0, 0, 1), 1), (1, 1, 0))
        self.assertEqual(row_behind([("both", 0), ("over", 0)], (0, 0, 1), 1), (0, 1, 0))

    def test_the_deeds_one_behind_the_other(self):
        chance = random.Random(12)
        for n in (1, 2, 3, 5, 6, 7, 20, 39, 40):
            for many in LENGTHS:
                work = random_work(chance, n, many)
                row = random_row(chance, n)
                expected = row
                for words in work:
                    expected = deed_of(words, n).on_row(expected)
                self.assertEqual(row_behind(work, row, n), expected)

    def test_does_behind_the_work_what_the_row_did_ahead(self):
        chance = random.Random(13)
        for n in (1, 2, 3, 4, 6):
            for many in (0, 1, 2, 10, 80):
                work = random_work(chance, n, many)
                row = random_row(chance, n)
                whole = random_whole(chance, n, 3)
                one = by_work(work, by_row(row, whole, n))
                other = by_row(row_behind(work, row, n), by_work(work, whole), n)
                self.assertEqual(one, other)

    def test_refusals(self):
        row = (0, 1, 1)
        for wrong in WRONG:
            for ahead in ([], [("over", 0)], [("swap", 0, 1)] * 70):
                self.refused(NoDeed, row_behind, ahead + [wrong], row, 3)
                self.refused(NoDeed, row_behind, ahead + [wrong, ("over", 0), ("over", 3)], row, 3)
        for beyond in BEYOND:
            for ahead in ([], [("over", 0)], [("swap", 0, 1)] * 70):
                self.refused(NoWire, row_behind, ahead + [beyond], row, 3)
                self.refused(NoWire, row_behind, ahead + [beyond, ("over", 0), ("over",)], row, 3)

    def test_what_is_handed_in_stays(self):
        work = [("over", 0), ("quarter", 1), ("where", 0, 1)]
        before = list(work)
        row_behind(work, (0, 1, 1), 2)
        self.assertEqual(work, before)
        with self.assertRaises(NoWire):
            row_behind(work, (0, 1, 1), 1)
        self.assertEqual(work, before)

    def test_the_arguments_have_their_names(self):
        self.assertEqual(row_behind(work=[("over", 0)], row=(0, 0, 1), n=1), (1, 0, 1))


class Undone(Refusing):
    def test_by_hand(self):
        self.assertEqual(undone([]), [])
        self.assertEqual(undone([("quarter", 3)]), [("back", 3)])
        work = [("over", 0), ("quarter", 1), ("back", 2), ("both", 3), ("where", 4, 5), ("swap", 39, 6)]
        self.assertEqual(undone(work), [("swap", 39, 6), ("where", 4, 5), ("both", 3), ("quarter", 2), ("back", 1),
                                        ("over", 0)])

    def test_behind_a_work_and_its_undoing_each_row_is_as_it_was(self):
        chance = random.Random(14)
        for n in (1, 2, 3, 6, 7, 20, 39, 40):
            for many in LENGTHS:
                work = random_work(chance, n, many)
                undoing = undone(work)
                rows = all_rows(n) if n < 3 else [random_row(chance, n) for turn in range(10)]
                for row in rows:
                    behind = row_behind(work, row, n)
                    self.assertEqual(row_behind(undoing, behind, n), row)
                    self.assertEqual(row_behind(work + undoing, row, n), row)
                    self.assertEqual(row_behind(undoing + work, row, n), row)
                self.assertEqual(undone(undoing), work)

    def test_behind_a_work_and_its_undoing_a_whole_is_the_same(self):
        chance = random.Random(15)
        for n in (1, 2, 3, 6):
            for many in (0, 1, 10, 40):
                work = random_work(chance, n, many)
                whole = random_whole(chance, n, 3)
                self.assertTrue(same_by_a_factor(whole, by_work(work + undone(work), whole)))

    def test_wires_that_are_right_for_some_n(self):
        for k in (0, 1, 6, 39, 40, 45):
            self.assertEqual(undone([("back", k), ("over", k)]), [("over", k), ("quarter", k)])

    def test_refusals(self):
        for wrong in WRONG:
            self.refused(NoDeed, undone, [wrong])
            self.refused(NoDeed, undone, [("over", 0), wrong, ("over", -1)])
        for below in (("over", -1), ("where", 0, -3), ("swap", -(10 ** 60), 0)):
            self.refused(NoWire, undone, [below])
            self.refused(NoWire, undone, [("over", 0), below, ("over",)])

    def test_what_is_handed_in_stays_and_what_is_told_is_new(self):
        for work in ([], [("over", 0)], [("quarter", 0), ("where", 0, 1)]):
            before = list(work)
            told = undone(work)
            self.assertIs(type(told), list)
            self.assertIsNot(told, work)
            expected = list(told)
            told.append(("over", 9))
            self.assertEqual(work, before)
            self.assertEqual(undone(work), expected)
            later = undone(work)
            work.append(("back", 1))
            self.assertEqual(later, expected)

    def test_the_argument_has_its_name(self):
        self.assertEqual(undone(work=[("back", 0)]), [("quarter", 0)])


if __name__ == "__main__":
    unittest.main()
