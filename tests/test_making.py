"""Points 39 to 41: works made from rows, and what some wires have in common with the others."""

import random
import unittest
from fractions import Fraction

from helpers import (DEEDS, Refusing, all_rows, by_row, by_work, is_one_of, minus_of, mixed, random_rows_of_whole,
                     random_work, rank_of_letters, right_rows, rows_of_work, wrong_lists)

from twinwires.errors import NoWhole, NoWire
from twinwires.making import common, made
from twinwires.signs import Signs
from twinwires.tellings import telling

SOME_N = (1, 2, 3, 6, 7, 20, 39, 40)


class Made(Refusing):
    def check(self, rows, n):
        before = list(rows)
        work = made(rows, n)
        self.assertEqual(rows, before)
        self.assertIs(type(work), list)
        for words in work:
            self.assertIs(type(words), tuple)
            self.assertEqual(len(words), 1 + DEEDS[words[0]])
            self.assertTrue(all(type(k) is int and 0 <= k < n for k in words[1:]))
            self.assertEqual(len(set(words[1:])), len(words[1:]))
        machine = Signs(n)
        for words in work:
            machine.do(words)
        self.assertEqual(telling(machine.rows(), n), telling(rows, n))
        for row in rows_of_work(work, n):
            self.assertTrue(is_one_of(row, rows, n))
        return work

    def check_whole(self, rows, n):
        whole = by_work(self.check(rows, n), {0: (1, 0)})
        for row in rows:
            self.assertEqual(by_row(row, whole, n), whole)

    def test_all_wires_up_and_down(self):
        for n in range(1, 41):
            self.check([(0, 0, 1 << k) for k in range(n)], n)
            self.check([(1, 0, 1 << k) for k in range(n)], n)
            self.check([(k % 2, 1 << k, 0) for k in range(n)], n)
            self.check([(k % 2, 1 << k, 1 << k) for k in range(n)], n)

    def test_every_whole_of_one_and_two_wires(self):
        for row in all_rows(1):
            if right_rows([row], 1):
                self.check_whole([row], 1)
        for one in all_rows(2):
            for other in all_rows(2):
                if right_rows([one, other], 2):
                    self.check_whole([one, other], 2)

    def test_wholes_of_up_to_six_wires(self):
        chance = random.Random(39)
        for n in range(1, 7):
            for turn in range(20):
                self.check_whole(random_rows_of_whole(chance, n), n)

    def test_wholes_of_up_to_forty_wires(self):
        chance = random.Random(40)
        for n in SOME_N:
            for many in (0, 5, 80, 400):
                rows = random_rows_of_whole(chance, n, many)
                self.check(rows, n)
                self.check([minus_of(row) if chance.random() < 0.5 else row for row in rows], n)

    def test_what_is_told_is_the_askers_own(self):
        rows = [(1, 1, 1)]
        work = made(rows, 1)
        before = list(work)
        work.append(("over", 0))
        self.assertEqual(len(made(rows, 1)), len(before))
        self.assertEqual(rows, [(1, 1, 1)])

    def test_refusals(self):
        chance = random.Random(41)
        for n in SOME_N:
            for rows in wrong_lists(chance, n):
                before = list(rows)
                self.refused(NoWhole, made, rows, n)
                self.assertEqual(rows, before)

    def test_the_arguments_have_their_names(self):
        self.assertEqual(rows_of_work(made(rows=[(1, 0, 1)], n=1), 1), [(1, 0, 1)])


def lines_apart(whole, wires, n):
    """Point 41: how many of the lines are such that none is made up of others."""
    others = [k for k in range(n) if k not in wires]
    lines = {}
    for b, (re, im) in whole.items():
        line = tuple(b >> k & 1 for k in wires)
        place = tuple(b >> k & 1 for k in others)
        lines.setdefault(line, {})[place] = (Fraction(re), Fraction(im))
    found = 0
    rest = list(lines.values())
    while rest:
        first = {place: pair for place, pair in rest.pop().items() if pair != (0, 0)}
        if not first:
            continue
        found += 1
        lead, pivot = next(iter(first.items()))
        rest = [less(line, first, over(line.get(lead, (0, 0)), pivot)) for line in rest]
    return found


def by(one, other):
    return (one[0] * other[0] - one[1] * other[1], one[0] * other[1] + one[1] * other[0])


def over(one, other):
    size = other[0] ** 2 + other[1] ** 2
    told = by(one, (other[0], -other[1]))
    return (Fraction(told[0]) / size, Fraction(told[1]) / size)


def less(line, first, factor):
    told = {}
    for place in set(line) | set(first):
        a, b = line.get(place, (0, 0)), by(factor, first.get(place, (0, 0)))
        told[place] = (a[0] - b[0], a[1] - b[1])
    return told


def cut_and_counted(rows, wires):
    """Point 40, by its words."""
    mask = sum(1 << k for k in wires)
    return rank_of_letters([(0, row[1] & mask, row[2] & mask) for row in rows]) - len(wires)


class Common(Refusing):
    def test_by_hand(self):
        pair = [(0, 3, 0), (0, 0, 3)]
        for wires, told in (([], 0), ([0], 1), ([1], 1), ([0, 1], 0), ([1, 0], 0)):
            self.assertEqual(common(pair, wires, 2), told)
            self.assertEqual(common([(0, 0, 1), (1, 2, 0)], wires, 2), 0)
        two_pairs = [(0, 5, 0), (0, 0, 5), (0, 10, 0), (0, 0, 10)]
        for wires, told in (([0, 1], 2), ([0, 2], 0), ([0, 3], 2), ([1, 2, 3], 1), ([3], 1), ([3, 1], 0)):
            self.assertEqual(common(two_pairs, wires, 4), told)

    def check(self, rows, wires, n):
        before = (list(rows), list(wires))
        told = common(rows, wires, n)
        self.assertIs(type(told), int)
        self.assertEqual(told, cut_and_counted(rows, wires))
        self.assertTrue(0 <= told <= min(len(wires), n - len(wires)))
        others = [k for k in range(n) if k not in wires]
        self.assertEqual(common(rows, others, n), told)
        self.assertEqual(common(rows, wires[::-1], n), told)
        self.assertEqual((rows, wires), before)
        return told

    def test_some_wires_of_some_wholes(self):
        chance = random.Random(42)
        found = set()
        for n in SOME_N:
            for many in (0, 5, 80, 200):
                rows = random_rows_of_whole(chance, n, many)
                self.assertEqual(self.check(rows, [], n), 0)
                self.assertEqual(self.check(rows, list(range(n)), n), 0)
                for turn in range(4):
                    wires = chance.sample(range(n), chance.randint(0, n))
                    told = self.check(rows, wires, n)
                    self.assertEqual(self.check(mixed(chance, rows, n), wires, n), told)
                    found.add(told)
        self.assertTrue({0, 1, 2, 3} <= found, found)

    def test_against_the_lines_of_the_whole(self):
        chance = random.Random(43)
        for n in range(1, 7):
            for turn in range(12):
                work = random_work(chance, n, chance.choice((3, 10, 40)))
                whole = by_work(work, {0: (1, 0)})
                rows = mixed(chance, rows_of_work(work, n), n)
                wires = chance.sample(range(n), chance.randint(0, n))
                self.assertEqual(lines_apart(whole, wires, n), 2 ** self.check(rows, wires, n))

    def test_refuses_rows_first(self):
        chance = random.Random(44)
        for n in SOME_N:
            for rows in wrong_lists(chance, n):
                for wires in ([], [0], [n], [0, 0], [-1]):
                    self.refused(NoWhole, common, rows, wires, n)

    def test_refuses_wires(self):
        chance = random.Random(45)
        for n in SOME_N:
            rows = random_rows_of_whole(chance, n)
            for wires in ([n], [-1], [0, n], [n, 0], [0, 0], [n - 1, 0, n - 1], [10 ** 60], [-(10 ** 60)], [-n],
                          list(range(n + 1)), list(range(n)) + [0]):
                before = list(wires)
                self.refused(NoWire, common, rows, wires, n)
                self.assertEqual(wires, before)

    def test_refuses_things_that_are_no_numbers(self):
        for thing in (True, False, None, "0", 0.0, [0], (0,), object()):
            self.refused(NoWire, common, [(0, 0, 1), (0, 0, 2)], [thing], 2)
            self.refused(NoWire, common, [(0, 0, 1), (0, 0, 2)], [1, thing], 2)

    def test_the_arguments_have_their_names(self):
        self.assertEqual(common(rows=[(0, 0, 1)], wires=[0], n=1), 0)


if __name__ == "__main__":
    unittest.main()
