"""Points 19, 20 and 22 to 26: the machine of rows and its looks."""

import random
import unittest

from helpers import (DEEDS, Drawn, Refusing, all_products, all_rows, beside_by_letters, is_one_of, minus_of, product,
                     random_look, random_work, rank_of_letters, rows_of_work)

from twinwires.errors import NoDeed, NoLook, NoRow, NoWire, NoWires
from twinwires.signs import Signs

SOME_N = (1, 2, 3, 6, 7, 20, 39, 40)


def machine_behind(n, work):
    machine = Signs(n)
    for words in work:
        machine.do(words)
    return machine


class Kept(Refusing):
    def check_rows(self, rows, n):
        """Point 19."""
        self.assertIs(type(rows), list)
        self.assertEqual(len(rows), n)
        for row in rows:
            self.assertEqual([type(row)] + [type(part) for part in row], [tuple, int, int, int])
            self.assertIn(row[0], (0, 1))
            self.assertTrue(0 <= row[1] < 1 << n and 0 <= row[2] < 1 << n)
        for k, row in enumerate(rows):
            for other in rows[:k]:
                self.assertTrue(beside_by_letters(row, other, n))
        self.assertEqual(rank_of_letters(rows), n)

    def check_same(self, rows, others, n):
        for row in rows:
            self.assertTrue(is_one_of(row, others, n))
        for row in others:
            self.assertTrue(is_one_of(row, rows, n))


class TheMachine(Kept):
    def test_at_first(self):
        for n in range(1, 41):
            machine = Signs(n)
            self.assertEqual(machine.wires(), n)
            self.assertIs(type(machine.wires()), int)
            self.assertEqual(sorted(machine.rows()), [(0, 0, 1 << k) for k in range(n)])

    def test_refuses_other_numbers_of_wires(self):
        for n in (0, 41, 42, 100, -1, -40, 10 ** 60, -(10 ** 60), True, False, None, "", "1", 1.0, 40.0, [], [1], (1,),
                  {}, b"1", 1j, object(), int):
            self.refused(NoWires, Signs, n)

    def test_behind_works(self):
        chance = random.Random(19)
        for n in SOME_N:
            for many in (0, 1, 2, 10, 40, 80):
                work = random_work(chance, n, many)
                rows = machine_behind(n, work).rows()
                self.check_rows(rows, n)
                self.check_same(rows, rows_of_work(work, n), n)

    def test_a_deed_tells_nothing(self):
        self.assertIsNone(Signs(1).do(("over", 0)))

    def test_by_hand(self):
        self.assertEqual(machine_behind(1, [("over", 0)]).rows(), [(1, 0, 1)])
        self.assertEqual(machine_behind(1, [("both", 0), ("quarter", 0)]).rows(), [(0, 1, 1)])
        rows = machine_behind(2, [("both", 0), ("where", 0, 1)]).rows()
        self.check_same(rows, [(0, 3, 0), (0, 0, 3)], 2)

    def test_what_is_done_to_a_told_list_changes_nothing(self):
        machine = machine_behind(3, [("both", 0), ("where", 0, 1)])
        told = machine.rows()
        before = list(told)
        told.reverse()
        told.append((0, 0, 0))
        self.assertEqual(machine.rows(), before)
        told = machine.rows()
        machine.do(("over", 2))
        machine.look((0, 0, 1))
        self.assertEqual(told, before)

    def test_two_machines_go_on_each_by_itself(self):
        one, other = Signs(2), Signs(2)
        one.do(("both", 0))
        one.look((0, 2, 0), lambda: 1)
        self.assertEqual(sorted(other.rows()), [(0, 0, 1), (0, 0, 2)])
        self.assertEqual(sorted(Signs(2).rows()), [(0, 0, 1), (0, 0, 2)])

    def test_refusals_leave_the_rows(self):
        for n in (1, 3, 40):
            machine = machine_behind(n, [("both", 0), ("quarter", 0), ("over", n - 1)])
            before = machine.rows()
            for wrong in (None, 0, "over", (), ("over",), ("over", 0, 1), ("over", True), ("over", None), ("over", "0"),
                          ["over", 0], ("look", 1, 0), ("where", 0, 0), ("swap", 99, 99), ("where", 0), {}, ("x", 0)):
                self.refused(NoDeed, machine.do, wrong)
                self.assertEqual(machine.rows(), before)
            for word, many in DEEDS.items():
                for k in (-1, n, n + 1, 41, 10 ** 60):
                    self.refused(NoWire, machine.do, (word, k) if many == 1 else (word, 0, k))
                    self.assertEqual(machine.rows(), before)

    def test_the_arguments_have_their_names(self):
        machine = Signs(n=1)
        machine.do(words=("over", 0))
        self.assertEqual(machine.look(row=(0, 1, 0), draw=lambda: 1), (1, False))


class RefusedLooks(Kept):
    def test_refused_looks(self):
        chance = random.Random(22)
        for n in SOME_N:
            machine = machine_behind(n, random_work(chance, n, 20))
            full = (1 << n) - 1
            for row in (None, 0, True, "+z", [], [0, 0, 1], (), (0, 1), (0, 0, 1, 0), (2, 0, 1), (-1, 0, 1), (0, -1, 0),
                        (0, True, 0), (False, 0, 1), (0, None, 1), (0, "1", 0), (0, 1.0, 0), {}, (0, 1 << n, 0),
                        (0, 0, 1 << n), (1, 1 << n, 0), (0, 10 ** 60, 0), object()):
                self.check(NoRow, machine, row)
            for row in ((0, 0, 0), (1, 0, 0), (1, 1, 0), (1, 0, full), (1, full, full)):
                self.check(NoLook, machine, row)

    def check(self, kind, machine, row):
        before = machine.rows()
        draw = Drawn(1)
        self.refused(kind, machine.look, row)
        self.refused(kind, machine.look, row, draw)
        self.assertEqual(draw.calls, 0)
        self.assertEqual(machine.rows(), before)


class SureLooks(Kept):
    def check(self, machine, row, value):
        n = machine.wires()
        before = machine.rows()
        draw = Drawn(1 - value)
        for told in (machine.look(row, draw), machine.look(row), machine.look(row, None)):
            self.assertEqual(told, (value, True))
            self.assertEqual([type(told), type(told[0]), type(told[1])], [tuple, int, bool])
        self.assertEqual(draw.calls, 0)
        self.check_same(machine.rows(), before, n)

    def test_ups_and_downs(self):
        for n in SOME_N:
            for k in (0, n - 1):
                self.check(Signs(n), (0, 0, 1 << k), 0)
                self.check(machine_behind(n, [("over", k)]), (0, 0, 1 << k), 1)
                self.check(machine_behind(n, [("over", k)]), (0, 0, (1 << n) - 1), 1)
                self.check(machine_behind(n, [("both", k), ("back", k)]), (0, 1 << k, 1 << k), 1)

    def test_products_of_several_kept_rows(self):
        chance = random.Random(23)
        values = []
        for n in SOME_N:
            for many in (0, 5, 40, 80):
                machine = machine_behind(n, random_work(chance, n, many))
                for turn in range(6):
                    row = (0, 0, 0)
                    for other in chance.sample(machine.rows(), chance.randint(1, n)):
                        row = product(row, other, n)
                    self.check(machine, (0, row[1], row[2]), row[0])
                    values.append(row[0])
        self.assertGreater(min(values.count(0), values.count(1)), 20)

    def test_two_wires_together(self):
        pair = [("both", 0), ("where", 0, 1)]
        self.check(machine_behind(2, pair), (0, 3, 0), 0)
        self.check(machine_behind(2, pair), (0, 0, 3), 0)
        self.check(machine_behind(2, pair), (0, 3, 3), 1)


class FreeLooks(Kept):
    def check(self, machine, row, draw, value):
        n = machine.wires()
        before = machine.rows()
        told = machine.look(row, draw)
        self.assertEqual(told, (value, False))
        self.assertEqual([type(told), type(told[0]), type(told[1])], [tuple, int, bool])
        behind = machine.rows()
        self.check_rows(behind, n)
        found = row if value == 0 else minus_of(row)
        self.assertTrue(is_one_of(found, behind, n))
        self.assertFalse(is_one_of(minus_of(found), behind, n))
        # What left the whole as it is and goes beside the row is made by these.
        staying = [other for other in before if beside_by_letters(other, row, n)]
        crossing = [other for other in before if not beside_by_letters(other, row, n)]
        self.assertNotEqual(crossing, [])
        for other in staying + [product(crossing[0], other, n) for other in crossing[1:]]:
            self.assertTrue(is_one_of(other, behind, n))
        again = Drawn(1 - value)
        self.assertEqual(machine.look(row, again), (value, True))
        self.assertEqual(again.calls, 0)
        self.check_same(machine.rows(), behind, n)

    def test_behind_works(self):
        chance = random.Random(24)
        counted = 0
        for n in SOME_N:
            for many in (0, 5, 40, 80):
                for turn in range(4):
                    machine = machine_behind(n, random_work(chance, n, many))
                    row = random_look(chance, n)
                    if all(beside_by_letters(row, other, n) for other in machine.rows()):
                        continue
                    number = chance.randint(-(10 ** 20), 10 ** 20)
                    draw = Drawn(number)
                    self.check(machine, row, draw, number % 2)
                    self.assertEqual(draw.calls, 1)
                    counted += 1
        self.assertGreater(counted, 60)

    def test_every_row_behind_works_of_few_wires(self):
        chance = random.Random(25)
        for n in (1, 2, 3):
            for turn in range(8):
                work = random_work(chance, n, 12)
                group = all_products(rows_of_work(work, n), n)
                for row in all_rows(n):
                    if row[0] == 1 or row == (0, 0, 0):
                        continue
                    if row in group:
                        SureLooks().check(machine_behind(n, work), row, 0)
                    elif minus_of(row) in group:
                        SureLooks().check(machine_behind(n, work), row, 1)
                    else:
                        for value in (0, 1):
                            draw = Drawn(value)
                            self.check(machine_behind(n, work), row, draw, value)
                            self.assertEqual(draw.calls, 1)

    def test_the_lowest_bit_of_any_whole_number(self):
        for number in (0, 1, 2, 3, -1, -2, -3, 10 ** 60, 10 ** 60 + 1, -(10 ** 60), -(10 ** 60) - 1, 1 << 5000,
                       (1 << 5000) + 1, -(1 << 5000), -(1 << 5000) - 1):
            self.check(machine_behind(40, [("both", 39)]), (0, 0, 1 << 39), lambda: number, number % 2)

    def test_without_a_drawer(self):
        self.check(machine_behind(40, [("both", 39)]), (0, 0, 1 << 39), None, 0)
        self.assertEqual(machine_behind(2, [("both", 1)]).look((0, 0, 2)), (0, False))

    def test_a_look_that_crosses_all_rows(self):
        for n in SOME_N:
            full = (1 << n) - 1
            self.check(Signs(n), (0, full, 0), lambda: 1, 1)
            self.check(Signs(n), (0, full, full), lambda: 0, 0)


if __name__ == "__main__":
    unittest.main()
