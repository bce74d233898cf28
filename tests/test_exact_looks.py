"""Points 22 to 26 for the exact machine: looks."""

import random
import unittest

from helpers import (Drawn, Refusing, all_rows, by_row, minus_of, random_look, random_work, same_by_a_factor, sum_of,
                     weight)

from twinwires.errors import NoLook, NoRow
from twinwires.exact import Exact, halves_by

NO_ROWS = [None, 0, 1, True, "", "+z", "z", [], [0, 0, 1], (), (0,), (0, 1), (0, 0, 1, 0), (2, 0, 1), (-1, 0, 1),
           (0, -1, 0), (0, 0, -1), (0, True, 0), (False, 0, 1), (0, None, 1), (0, "1", 0), (0, 1.0, 0), (0, [1], 0), {},
           {0: 0}, object(), Exact]


def machine_behind(n, work):
    machine = Exact(n)
    for words in work:
        machine.do(words)
    return machine


class Refusals(Refusing):
    def test_no_row(self):
        chance = random.Random(22)
        for n in range(1, 7):
            machine = machine_behind(n, random_work(chance, n, 10))
            beyond = [(0, 1 << n, 0), (0, 0, 1 << n), (1, 1 << n, 1), (0, 10 ** 60, 0), (1, 0, 10 ** 60)]
            for row in NO_ROWS + beyond:
                self.check(NoRow, machine, row)

    def test_no_look(self):
        chance = random.Random(23)
        for n in range(1, 7):
            machine = machine_behind(n, random_work(chance, n, 10))
            full = (1 << n) - 1
            for row in ((0, 0, 0), (1, 0, 0), (1, 1, 0), (1, 0, full), (1, full, full)):
                self.check(NoLook, machine, row)

    def check(self, kind, machine, row):
        before = machine.whole()
        draw = Drawn(1)
        self.refused(kind, machine.look, row)
        self.refused(kind, machine.look, row, None)
        self.refused(kind, machine.look, row, draw)
        self.assertEqual(draw.calls, 0)
        self.assertEqual(machine.whole(), before)


class Sure(unittest.TestCase):
    def check(self, machine, row, value):
        before = machine.whole()
        for numbers in ((0,), (1,)):
            draw = Drawn(*numbers)
            told = machine.look(row, draw)
            self.assertEqual(told, (value, True))
            self.assertIs(type(told), tuple)
            self.assertIs(type(told[0]), int)
            self.assertIs(told[1], True)
            self.assertEqual(draw.calls, 0)
        self.assertEqual(machine.look(row), (value, True))
        self.assertEqual(machine.whole(), before)
        halves = halves_by(before, row)
        self.assertEqual(halves[value], 4 * weight(before))
        self.assertEqual(halves[1 - value], 0)

    def test_ups_and_downs(self):
        for n in range(1, 7):
            for k in range(n):
                self.check(Exact(n), (0, 0, 1 << k), 0)
                self.check(machine_behind(n, [("over", k)]), (0, 0, 1 << k), 1)
                self.check(machine_behind(n, [("over", k)]), (0, 0, (1 << n) - 1), 1)

    def test_both_at_once(self):
        for k in range(3):
            bit = 1 << k
            self.check(machine_behind(3, [("both", k)]), (0, bit, 0), 0)
            self.check(machine_behind(3, [("over", k), ("both", k)]), (0, bit, 0), 1)
            self.check(machine_behind(3, [("both", k), ("quarter", k)]), (0, bit, bit), 0)
            self.check(machine_behind(3, [("both", k), ("back", k)]), (0, bit, bit), 1)

    def test_two_wires_together(self):
        pair = [("both", 0), ("where", 0, 1)]
        self.check(machine_behind(2, pair), (0, 3, 0), 0)
        self.check(machine_behind(2, pair), (0, 0, 3), 0)
        self.check(machine_behind(2, pair), (0, 3, 3), 1)
        self.check(machine_behind(2, pair + [("over", 1)]), (0, 0, 3), 1)


class Free(unittest.TestCase):
    def check(self, work, n, row, numbers, value):
        machine = machine_behind(n, work)
        before = machine.whole()
        draw = Drawn(*numbers) if numbers else None
        told = machine.look(row, draw)
        self.assertEqual(told, (value, False))
        self.assertIs(type(told[0]), int)
        self.assertIs(told[1], False)
        if draw:
            self.assertEqual(draw.calls, 1)
        acted = by_row(row, before, n)
        expected = sum_of(before, acted, -1 if value else 1)
        behind = machine.whole()
        self.assertTrue(same_by_a_factor(expected, behind), (work, row))
        self.assertNotIn((0, 0), behind.values())
        halves = halves_by(before, row)
        self.assertEqual(halves[0], halves[1])
        again = Drawn(1 - value)
        self.assertEqual(machine.look(row, again), (value, True))
        self.assertEqual(again.calls, 0)
        self.assertEqual(machine.whole(), behind)

    def test_by_hand(self):
        self.check([("both", 0)], 1, (0, 0, 1), (0,), 0)
        self.check([("both", 0)], 1, (0, 0, 1), (1,), 1)
        self.check([], 1, (0, 1, 0), (1,), 1)
        self.check([], 1, (0, 1, 1), (1,), 1)
        machine = machine_behind(2, [("both", 0), ("where", 0, 1)])
        self.assertEqual(machine.look((0, 0, 1), lambda: 1), (1, False))
        self.assertTrue(same_by_a_factor(machine.whole(), {3: (1, 0)}))
        self.assertEqual(machine.look((0, 0, 2), lambda: 0), (1, True))

    def test_the_lowest_bit_of_any_whole_number(self):
        for number in (0, 1, 2, 3, 7, 8, -1, -2, -3, -4, 10 ** 60, 10 ** 60 + 1, -(10 ** 60), -(10 ** 60) - 1,
                       1 << 5000, (1 << 5000) + 1, -(1 << 5000), -(1 << 5000) - 1):
            self.check([("both", 0)], 1, (0, 0, 1), (number,), 1 if number % 2 else 0)

    def test_without_a_drawer(self):
        self.check([("both", 0)], 1, (0, 0, 1), (), 0)
        machine = machine_behind(2, [("both", 1)])
        self.assertEqual(machine.look((0, 0, 2)), (0, False))
        self.assertTrue(same_by_a_factor(machine.whole(), {0: (1, 0)}))

    def test_every_row_behind_some_works(self):
        chance = random.Random(24)
        counted = {0: 0, 1: 0, None: 0}
        for n in (1, 2, 3):
            for turn in range(12):
                work = random_work(chance, n, chance.choice((0, 3, 10, 30)))
                for row in all_rows(n):
                    if row[0] == 0 and row != (0, 0, 0):
                        counted[self.either(work, n, row)] += 1
        for n in (4, 5, 6):
            for turn in range(60):
                work = random_work(chance, n, chance.choice((5, 30, 80)))
                counted[self.either(work, n, random_look(chance, n))] += 1
        # Each of the three came about.
        self.assertGreater(min(counted.values()), 10, counted)

    def either(self, work, n, row):
        whole = machine_behind(n, work).whole()
        acted = by_row(row, whole, n)
        for value, sure_whole in ((0, whole), (1, by_row((1, 0, 0), whole, n))):
            if acted == sure_whole:
                Sure().check(machine_behind(n, work), row, value)
                return value
        for value in (0, 1):
            self.check(work, n, row, (value,), value)
        return None

    def test_rows_beside_it_that_left_the_whole_do_so_behind_it(self):
        chance = random.Random(25)
        for n in (1, 2, 3):
            for turn in range(20):
                machine = machine_behind(n, random_work(chance, n, 12))
                before = machine.whole()
                row = random_look(chance, n)
                value, sure = machine.look(row, Drawn(chance.getrandbits(1)))
                behind = machine.whole()
                for other in all_rows(n):
                    beside = by_row(row, by_row(other, before, n), n) == by_row(other, by_row(row, before, n), n)
                    if by_row(other, before, n) == before and beside:
                        self.assertEqual(by_row(other, behind, n), behind)
                found = row if value == 0 else minus_of(row)
                self.assertEqual(by_row(found, behind, n), behind)

    def test_looks_of_two_machines_go_on_each_by_itself(self):
        one, other = machine_behind(1, [("both", 0)]), machine_behind(1, [("both", 0)])
        one.look((0, 0, 1), lambda: 1)
        self.assertEqual(other.whole(), {0: (1, 0), 1: (1, 0)})

    def test_the_arguments_have_their_names(self):
        self.assertEqual(Exact(1).look(row=(0, 1, 0), draw=lambda: 3), (1, False))


if __name__ == "__main__":
    unittest.main()
