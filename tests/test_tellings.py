"""Points 30 to 34: the rows of a whole, its one telling, and what parts two wholes."""

import random
import unittest

from helpers import (Refusing, all_products, all_rows, by_row, by_work, is_one_of, minus_of, mixed, product,
                     product_of_all, random_rows_of_whole, random_work, right_rows, rows_of_work, wrong_lists)

from twinwires.errors import NoWhole
from twinwires.tellings import made_of, parting, same_rows, telling

SOME_N = (1, 2, 3, 6, 7, 20, 39, 40)


def signs_in_order(row, n):
    """Point 31: the places, in the order of signs, of those that the row has."""
    return [k for k in range(n) if row[1] >> k & 1] + [n + k for k in range(n) if row[2] >> k & 1]


class Telling(Refusing):
    def check(self, rows, n):
        before = list(rows)
        told = telling(rows, n)
        self.assertEqual(rows, before)
        self.assertIs(type(told), list)
        self.assertEqual(len(told), n)
        for row in told:
            self.assertEqual([type(row)] + [type(part) for part in row], [tuple, int, int, int])
            self.assertTrue(is_one_of(row, rows, n))
        for row in rows:
            self.assertTrue(is_one_of(row, told, n))
        signs = [signs_in_order(row, n) for row in told]
        leads = [places[0] for places in signs]
        self.assertEqual(leads, sorted(set(leads)))
        for place, lead in enumerate(leads):
            self.assertEqual([k for k in range(n) if lead in signs[k]], [place])
        return told

    def test_the_documents_own(self):
        self.assertEqual(telling([(0, 3, 3), (0, 0, 3)], 2), [(1, 3, 0), (0, 0, 3)])
        self.assertEqual(telling([(0, 0, 3), (0, 3, 3)], 2), [(1, 3, 0), (0, 0, 3)])
        self.assertEqual(telling([(0, 3, 3), (1, 3, 0)], 2), [(1, 3, 0), (0, 0, 3)])

    def test_all_wires_up(self):
        for n in range(1, 41):
            rows = [(0, 0, 1 << k) for k in range(n)]
            self.assertEqual(telling(rows[::-1], n), rows)

    def test_every_list_of_rows_of_one_and_two_wires(self):
        wholes = {1: {}, 2: {}}
        for row in all_rows(1):
            self.either([row], 1, wholes[1])
        for one in all_rows(2):
            for other in all_rows(2):
                self.either([one, other], 2, wholes[2])
        # There are just so many wholes of these kinds, and each has one telling.
        self.assertEqual([len(wholes[1]), len(wholes[2])], [6, 60])
        for told in wholes.values():
            self.assertEqual(len(set(told.values())), len(told))

    def either(self, rows, n, wholes):
        if right_rows(rows, n):
            told = self.check(rows, n)
            group = tuple(sorted(all_products(rows, n)))
            self.assertEqual(wholes.setdefault(group, tuple(told)), tuple(told))
        else:
            self.refused(NoWhole, telling, rows, n)

    def test_rows_of_one_whole_have_one_telling(self):
        chance = random.Random(31)
        for n in SOME_N:
            for many in (0, 3, 80):
                rows = rows_of_work(random_work(chance, n, many), n)
                told = self.check(rows, n)
                self.assertEqual(telling(told, n), told)
                for turn in range(4):
                    others = mixed(chance, rows, n)
                    self.assertEqual(self.check(others, n), told)

    def test_a_minus_makes_another_telling(self):
        chance = random.Random(32)
        for n in SOME_N:
            rows = random_rows_of_whole(chance, n)
            for k in range(min(n, 4)):
                others = rows[:k] + [minus_of(rows[k])] + rows[k + 1:]
                self.assertNotEqual(self.check(others, n), telling(rows, n))

    def test_a_row_of_the_told_whole_leaves_it(self):
        chance = random.Random(33)
        for n in (1, 2, 3, 6):
            work = random_work(chance, n, 40)
            whole = by_work(work, {0: (1, 0)})
            for row in telling(rows_of_work(work, n), n):
                self.assertEqual(by_row(row, whole, n), whole)

    def test_what_is_told_is_the_askers_own(self):
        rows = [(0, 0, 1), (0, 0, 2)]
        told = telling(rows, 2)
        self.assertIsNot(told, rows)
        told.reverse()
        told.append(None)
        self.assertEqual(rows, [(0, 0, 1), (0, 0, 2)])
        self.assertEqual(telling(rows, 2), [(0, 0, 1), (0, 0, 2)])

    def test_refusals(self):
        chance = random.Random(34)
        for n in SOME_N:
            for rows in wrong_lists(chance, n):
                before = list(rows)
                self.refused(NoWhole, telling, rows, n)
                self.assertEqual(rows, before)

    def test_rows_that_dont_fit_the_wires(self):
        self.refused(NoWhole, telling, [(0, 0, 1)], 2)
        self.refused(NoWhole, telling, [(0, 0, 1), (0, 0, 2)], 1)
        self.refused(NoWhole, telling, [(0, 0, 2)], 1)
        self.refused(NoWhole, telling, [(0, 4, 0), (0, 0, 1)], 2)

    def test_things_that_are_no_lists_of_rows(self):
        for thing in (None, 1, "+z", {}, (0, 0, 1), ((0, 0, 1),), [None], ["+z"], [[0, 0, 1]], [(0, 0, True)]):
            self.refused(NoWhole, telling, thing, 1)

    def test_the_arguments_have_their_names(self):
        self.assertEqual(telling(rows=[(1, 1, 0)], n=1), [(1, 1, 0)])


class MadeOf(unittest.TestCase):
    def check(self, rows, row, n, numbers, minus):
        before = list(rows)
        told = made_of(rows, row)
        self.assertEqual(told, (numbers, minus))
        self.assertEqual([type(told), type(told[0]), type(told[1])], [tuple, list, int])
        self.assertEqual(product_of_all([rows[k] for k in told[0]], n), (row[0] ^ minus, row[1], row[2]))
        self.assertEqual(rows, before)
        told[0].append(99)
        self.assertEqual(made_of(rows, row), (numbers, minus))

    def test_by_hand(self):
        rows = [(0, 3, 3), (0, 0, 3)]
        self.check(rows, (0, 3, 3), 2, [0], 0)
        self.check(rows, (1, 3, 3), 2, [0], 1)
        self.check(rows, (1, 3, 0), 2, [0, 1], 0)
        self.check(rows, (0, 3, 0), 2, [0, 1], 1)
        self.check(rows, (0, 0, 0), 2, [], 0)
        self.check(rows, (1, 0, 0), 2, [], 1)
        for row in ((0, 1, 0), (0, 0, 1), (1, 3, 1), (0, 1, 2)):
            self.assertIsNone(made_of(rows, row))

    def test_no_rows(self):
        self.check([], (0, 0, 0), 1, [], 0)
        self.check([], (1, 0, 0), 1, [], 1)
        self.assertIsNone(made_of([], (0, 1, 0)))
        self.assertIsNone(made_of([], (1, 0, 1 << 39)))

    def test_products_of_rows_perhaps_fewer_than_wires(self):
        chance = random.Random(35)
        for n in SOME_N:
            for turn in range(6):
                rows = random_rows_of_whole(chance, n)[:chance.randint(0, n) if turn % 2 else n]
                for again in range(6):
                    numbers = sorted(chance.sample(range(len(rows)), chance.randint(0, len(rows))))
                    row = product_of_all([rows[k] for k in numbers], n)
                    self.check(rows, row, n, numbers, 0)
                    self.check(rows, minus_of(row), n, numbers, 1)

    def test_every_row_of_few_wires(self):
        chance = random.Random(36)
        for n in (1, 2, 3):
            for turn in range(8):
                rows = random_rows_of_whole(chance, n)[:chance.randint(0, n)]
                products = all_products(rows, n)
                for row in all_rows(n):
                    if row in products:
                        self.assertEqual(made_of(rows, row)[1], 0)
                    elif minus_of(row) in products:
                        self.assertEqual(made_of(rows, row)[1], 1)
                    else:
                        self.assertIsNone(made_of(rows, row))

    def test_rows_left_out(self):
        chance = random.Random(37)
        for n in SOME_N:
            rows = random_rows_of_whole(chance, n)
            for k in range(min(n, 5)):
                others = rows[:k] + rows[k + 1:]
                self.assertIsNone(made_of(others, rows[k]))
                if others:
                    self.assertIsNone(made_of(others, product(rows[k], others[0], n)))

    def test_the_arguments_have_their_names(self):
        self.assertEqual(made_of(rows=[(0, 1, 0)], row=(1, 1, 0)), ([0], 1))


class TwoWholes(Refusing):
    def check(self, one, other, n, same):
        before = (list(one), list(other))
        for first, second in ((one, other), (other, one)):
            self.assertIs(same_rows(first, second, n), same)
            row = parting(first, second, n)
            if same:
                self.assertIsNone(row)
            else:
                self.assertEqual([type(row)] + [type(part) for part in row], [tuple, int, int, int])
                self.assertTrue(is_one_of(row, first, n))
                self.assertFalse(is_one_of(row, second, n))
        self.assertEqual((one, other), before)

    def test_the_same_whole_by_other_rows(self):
        chance = random.Random(38)
        for n in SOME_N:
            rows = random_rows_of_whole(chance, n)
            self.check(rows, rows, n, True)
            self.check(rows, list(rows), n, True)
            for turn in range(3):
                self.check(rows, mixed(chance, rows, n), n, True)

    def test_wholes_that_differ_by_a_minus_alone(self):
        chance = random.Random(39)
        for n in SOME_N:
            for turn in range(4):
                rows = random_rows_of_whole(chance, n)
                k = chance.randrange(n)
                others = mixed(chance, rows[:k] + [minus_of(rows[k])] + rows[k + 1:], n)
                self.check(rows, others, n, False)

    def test_wholes_that_differ_by_letters(self):
        chance = random.Random(40)
        for n in SOME_N:
            work = random_work(chance, n, 40)
            rows = mixed(chance, rows_of_work(work, n), n)
            for k in (0, n - 1):
                self.check(rows, mixed(chance, rows_of_work([("both", k)] + work, n), n), n, False)
                turned = rows_of_work([("both", k), ("quarter", k)] + work, n)
                self.check(rows, mixed(chance, turned, n), n, False)

    def test_every_two_of_few_wires(self):
        chance = random.Random(41)
        lists = [[one, other] for one in all_rows(2) for other in all_rows(2) if right_rows([one, other], 2)]
        for turn in range(400):
            one, other = chance.choice(lists), chance.choice(lists)
            same = sorted(all_products(one, 2)) == sorted(all_products(other, 2))
            self.check(one, other, 2, same)
        for one in all_rows(1):
            for other in all_rows(1):
                if right_rows([one], 1) and right_rows([other], 1):
                    self.check([one], [other], 1, one == other)

    def test_the_wholes_themselves(self):
        chance = random.Random(42)
        for n in (1, 2, 3, 6):
            for turn in range(10):
                one, other = random_work(chance, n, 12), random_work(chance, n, 12)
                row = parting(rows_of_work(one, n), rows_of_work(other, n), n)
                if row is not None:
                    whole, second = by_work(one, {0: (1, 0)}), by_work(other, {0: (1, 0)})
                    self.assertEqual(by_row(row, whole, n), whole)
                    self.assertNotEqual(by_row(row, second, n), second)

    def test_refusals(self):
        chance = random.Random(43)
        for n in SOME_N:
            right = random_rows_of_whole(chance, n)
            for wrong in wrong_lists(chance, n):
                for call in (same_rows, parting):
                    self.refused(NoWhole, call, right, wrong, n)
                    self.refused(NoWhole, call, wrong, right, n)
                    self.refused(NoWhole, call, wrong, wrong, n)

    def test_the_arguments_have_their_names(self):
        self.assertIs(same_rows(one=[(0, 1, 0)], other=[(1, 1, 0)], n=1), False)
        self.assertEqual(parting(one=[(0, 1, 0)], other=[(1, 1, 0)], n=1), (0, 1, 0))


if __name__ == "__main__":
    unittest.main()
