"""Points 5 and 13 to 17: the exact machine, and what is told of wholes."""

import random
import unittest

from helpers import (DEEDS, Refusing, all_deeds, all_rows, by_deed, by_row, minus_of, random_number, random_row,
                     random_whole, random_work, same_by_a_factor, sum_of, times_pair, weight)

from twinwires.errors import NoDeed, NoWire, NoWires
from twinwires.exact import Exact, acted_on, halves_by, same_whole, whole_weight


def some_rows_and_wholes(chance, figures=20):
    for n in (1, 2):
        for row in all_rows(n):
            yield n, row, random_whole(chance, n, figures)
    for n in (3, 4, 5, 6):
        for turn in range(60):
            yield n, random_row(chance, n), random_whole(chance, n, figures)
        full = (1 << n) - 1
        for row in ((0, 0, 0), (1, 0, 0), (1, full, full), (0, full, 0), (0, 0, full)):
            yield n, row, random_whole(chance, n, figures, 1 << n)


class ActedOn(unittest.TestCase):
    def test_by_hand(self):
        whole = {0: (2, 3), 1: (5, 7)}
        self.assertEqual(acted_on(whole, (0, 0, 0)), whole)
        self.assertEqual(acted_on(whole, (1, 0, 0)), {0: (-2, -3), 1: (-5, -7)})
        self.assertEqual(acted_on(whole, (0, 1, 0)), {1: (2, 3), 0: (5, 7)})
        self.assertEqual(acted_on(whole, (0, 0, 1)), {0: (2, 3), 1: (-5, -7)})
        # y: times i, and times -1 where wire 0 was down.
        self.assertEqual(acted_on(whole, (0, 1, 1)), {1: (-3, 2), 0: (7, -5)})
        self.assertEqual(acted_on({0: (1, 0)}, (0, 3, 3)), {3: (-1, 0)})
        self.assertEqual(acted_on({0: (1, 0)}, (1, 7, 7)), {7: (0, 1)})

    def test_number_by_number(self):
        for n, row, whole in some_rows_and_wholes(random.Random(5)):
            self.assertEqual(acted_on(whole, row), by_row(row, whole, n), row)

    def test_done_twice_it_is_the_whole_again(self):
        for n, row, whole in some_rows_and_wholes(random.Random(6)):
            self.assertEqual(acted_on(acted_on(whole, row), row), whole, row)

    def test_the_minus_of_a_row_does_the_minus(self):
        for n, row, whole in some_rows_and_wholes(random.Random(7)):
            told = acted_on(whole, row)
            self.assertEqual(acted_on(whole, minus_of(row)), {b: (-re, -im) for b, (re, im) in told.items()})

    def test_what_is_handed_in_stays_and_what_is_told_is_new(self):
        whole = {0: (2, 3), 1: (5, 7)}
        for row in all_rows(1):
            told = acted_on(whole, row)
            self.assertIs(type(told), dict)
            self.assertIsNot(told, whole)
            expected = dict(told)
            told.clear()
            self.assertEqual(whole, {0: (2, 3), 1: (5, 7)})
            self.assertEqual(acted_on(whole, row), expected)

    def test_the_arguments_have_their_names(self):
        self.assertEqual(acted_on(whole={0: (1, 0)}, row=(0, 1, 0)), {1: (1, 0)})


class WholeWeight(unittest.TestCase):
    def test_by_hand(self):
        self.assertEqual(whole_weight({0: (1, 0)}), 1)
        self.assertEqual(whole_weight({63: (-3, 4)}), 25)
        self.assertEqual(whole_weight({0: (1, -1), 3: (0, 2), 5: (-3, 0)}), 15)

    def test_some(self):
        chance = random.Random(15)
        for n in range(1, 7):
            for figures in (1, 3, 20, 60):
                whole = random_whole(chance, n, figures)
                before = dict(whole)
                told = whole_weight(whole)
                self.assertEqual(told, weight(whole))
                self.assertIs(type(told), int)
                self.assertEqual(whole, before)

    def test_the_argument_has_its_name(self):
        self.assertEqual(whole_weight(whole={0: (1, 1)}), 2)


class SameWhole(unittest.TestCase):
    def check(self, one, other, same):
        before = (dict(one), dict(other))
        self.assertIs(same_whole(one, other), same, (one, other))
        self.assertIs(same_whole(other, one), same, (one, other))
        self.assertEqual((one, other), before)

    def test_the_documents_own(self):
        one, other, third = {0: (1, 0), 3: (0, 1)}, {0: (0, 2), 3: (-2, 0)}, {0: (1, 0), 3: (1, 0)}
        self.check(one, other, True)
        self.check(one, third, False)
        self.check(other, third, False)
        for whole in (one, other, third):
            self.check(whole, whole, True)
            self.check(whole, dict(whole), True)

    def test_times_a_factor_of_two_parts(self):
        chance = random.Random(16)
        for n in range(1, 7):
            for figures in (1, 2, 20):
                whole = random_whole(chance, n, figures)
                for factor in ((1, 0), (-1, 0), (0, 1), (0, -1), (2, 0), (3, -5),
                               (random_number(chance, 20) or 1, random_number(chance, 20))):
                    self.check(whole, times_pair(whole, factor), True)
                # A factor that is a fraction: two whole numbers of the same whole.
                self.check(times_pair(whole, (2, 1)), times_pair(whole, (-3, 7)), True)

    def test_the_order_of_the_rows_is_nothing(self):
        self.check({0: (1, 0), 3: (0, 1)}, {3: (-2, 0), 0: (0, 2)}, True)

    def test_one_number_differs(self):
        chance = random.Random(17)
        for n in range(1, 7):
            for turn in range(10):
                whole = random_whole(chance, n, 20, chance.randint(2, 1 << n))
                for factor in ((1, 0), (0, 3), (-2, 5)):
                    other = times_pair(whole, factor)
                    b = chance.choice(sorted(other))
                    re, im = other[b]
                    for pair in ((re + 1, im), (re, im - 1), (-re, -im), (-im, re)):
                        if pair != (0, 0):
                            self.check(whole, {**other, b: pair}, False)

    def test_the_turned_about_number_differs(self):
        # The same squares, but im has another sign.
        self.check({0: (1, 0), 1: (1, 2)}, {0: (1, 0), 1: (1, -2)}, False)
        self.check({0: (1, 1), 1: (1, 2)}, {0: (1, -1), 1: (1, -2)}, False)

    def test_one_row_more_or_less(self):
        chance = random.Random(18)
        for n in range(1, 7):
            whole = random_whole(chance, n, 3, 1 << n)
            for b in list(whole):
                less = {row: pair for row, pair in whole.items() if row != b}
                if less:
                    self.check(whole, less, False)
                    self.check(times_pair(whole, (0, 2)), less, False)

    def test_other_rows(self):
        self.check({0: (1, 0)}, {1: (1, 0)}, False)
        self.check({0: (1, 0)}, {0: (7, -9)}, True)
        self.check({0: (1, 0), 1: (1, 0)}, {0: (1, 0), 2: (1, 0)}, False)

    def test_two_numbers_exchanged(self):
        whole = {0: (1, 0), 1: (2, 0), 5: (3, 1)}
        self.check(whole, {0: (2, 0), 1: (1, 0), 5: (3, 1)}, False)
        self.check(whole, {0: (3, 1), 1: (2, 0), 5: (1, 0)}, False)
        self.check({0: (1, 0), 1: (-1, 0)}, {0: (-1, 0), 1: (1, 0)}, True)

    def test_some_against_every_two_rows(self):
        chance = random.Random(19)
        for turn in range(400):
            one = {b: chance.choice(((1, 0), (-1, 0), (0, 1), (0, -1))) for b in range(3)}
            other = {b: chance.choice(((1, 0), (-1, 0), (0, 1), (0, -1))) for b in range(3)}
            self.check(one, other, same_by_a_factor(one, other))

    def test_the_arguments_have_their_names(self):
        self.assertIs(same_whole(one={0: (1, 0)}, other={0: (1, 0)}), True)


class HalvesBy(unittest.TestCase):
    def test_by_hand(self):
        self.assertEqual(halves_by({0: (1, 0)}, (0, 0, 1)), (4, 0))
        self.assertEqual(halves_by({0: (1, 0)}, (1, 0, 1)), (0, 4))
        self.assertEqual(halves_by({0: (1, 0)}, (0, 1, 0)), (2, 2))
        self.assertEqual(halves_by({0: (1, 0), 1: (2, 0)}, (0, 1, 0)), (18, 2))
        self.assertEqual(halves_by({0: (1, 2)}, (0, 0, 0)), (20, 0))

    def test_the_two_weights(self):
        for n, row, whole in some_rows_and_wholes(random.Random(17)):
            before = dict(whole)
            told = halves_by(whole, row)
            acted = by_row(row, whole, n)
            self.assertIs(type(told), tuple)
            self.assertEqual(told, (weight(sum_of(whole, acted)), weight(sum_of(whole, acted, -1))))
            self.assertEqual(sum(told), 4 * weight(whole))
            self.assertEqual(halves_by(whole, minus_of(row)), (told[1], told[0]))
            self.assertEqual(whole, before)

    def test_the_arguments_have_their_names(self):
        self.assertEqual(halves_by(whole={0: (1, 0)}, row=(0, 0, 1)), (4, 0))


class TheMachine(Refusing):
    def test_at_first(self):
        for n in range(1, 7):
            machine = Exact(n)
            self.assertEqual(machine.wires(), n)
            self.assertIs(type(machine.wires()), int)
            self.assertEqual(machine.whole(), {0: (1, 0)})
            self.assertIs(type(machine.whole()), dict)

    def test_refuses_other_numbers_of_wires(self):
        for n in (0, 7, 8, -1, -6, 40, 41, 10 ** 60, -(10 ** 60), True, False, None, "", "1", 1.0, 6.0, [], [1], (1,),
                  {}, {1: 1}, b"1", 1j, object(), int):
            self.refused(NoWires, Exact, n)

    def test_deeds_one_behind_the_other(self):
        chance = random.Random(20)
        for n in range(1, 7):
            for many in (0, 1, 10, 80):
                machine = Exact(n)
                expected = {0: (1, 0)}
                for words in random_work(chance, n, many):
                    self.assertIsNone(machine.do(words))
                    expected = by_deed(words, expected)
                    self.assertEqual(machine.whole(), expected)

    def test_each_deed_at_first(self):
        for n in range(1, 7):
            for words in all_deeds(n):
                machine = Exact(n)
                machine.do(("both", 0))
                machine.do(words)
                self.assertEqual(machine.whole(), by_deed(words, {0: (1, 0), 1: (1, 0)}))

    def test_both_eighty_times(self):
        machine = Exact(1)
        for turn in range(80):
            machine.do(("both", 0))
        self.assertEqual(machine.whole(), {0: (1 << 40, 0)})

    def test_two_machines_go_on_each_by_itself(self):
        one, other = Exact(2), Exact(2)
        one.do(("over", 0))
        self.assertEqual(other.whole(), {0: (1, 0)})
        other.do(("both", 1))
        self.assertEqual(one.whole(), {1: (1, 0)})
        self.assertEqual(other.whole(), {0: (1, 0), 2: (1, 0)})
        self.assertEqual(Exact(2).whole(), {0: (1, 0)})

    def test_what_is_done_to_a_told_whole_changes_nothing(self):
        machine = Exact(2)
        for words in (None, ("both", 0), ("where", 0, 1), ("quarter", 1)):
            if words:
                machine.do(words)
            told = machine.whole()
            expected = dict(told)
            told.clear()
            told[0] = (9, 9)
            self.assertEqual(machine.whole(), expected)
            told = machine.whole()
            machine.do(("over", 0))
            self.assertEqual(told, expected)
            machine.do(("over", 0))

    def test_refusals_leave_the_whole(self):
        for n in (1, 3, 6):
            machine = Exact(n)
            for words in [("both", 0), ("quarter", 0), ("over", n - 1)]:
                machine.do(words)
            before = machine.whole()
            for wrong in (None, 0, "over", (), ("over",), ("over", 0, 1), ("over", True), ("over", None), ("over", "0"),
                          ["over", 0], ("look", 1, 0), ("where", 0, 0), ("swap", 9, 9), ("where", 0), {}, ("x", 0)):
                self.refused(NoDeed, machine.do, wrong)
                self.assertEqual(machine.whole(), before)
            for word, many in DEEDS.items():
                for k in (-1, n, n + 1, 40, 10 ** 60):
                    self.refused(NoWire, machine.do, (word, k) if many == 1 else (word, 0, k))
                    self.assertEqual(machine.whole(), before)

    def test_the_arguments_have_their_names(self):
        machine = Exact(n=1)
        machine.do(words=("over", 0))
        self.assertEqual(machine.whole(), {1: (1, 0)})


if __name__ == "__main__":
    unittest.main()
