"""Points 21 and 27 to 29: drawers, works with looks, and both machines telling the same."""

import random
import unittest

from helpers import Drawn, Refusing, by_row, is_one_of, random_work, random_work_with_looks, rows_of_work

from twinwires.errors import NoDeed, NoLook, NoRow, NoWire
from twinwires.exact import Exact
from twinwires.runs import drawer_of, run_work
from twinwires.signs import Signs


def state_of(machine):
    return machine.whole() if isinstance(machine, Exact) else machine.rows()


class DrawerOf(unittest.TestCase):
    def test_lowest_bits_and_then_noughts(self):
        numbers = [0, 1, 2, 3, -1, -2, -3, 10 ** 60, 10 ** 60 + 1, -(10 ** 60), -(10 ** 60) - 1, 1 << 5000,
                   (1 << 5000) + 1, -(1 << 5000) - 1]
        draw = drawer_of(numbers)
        told = [draw() for number in numbers]
        self.assertEqual(told, [number % 2 for number in numbers])
        self.assertEqual({type(bit) for bit in told}, {int})
        self.assertEqual([draw() for turn in range(50)], [0] * 50)

    def test_the_last_number_is_told_once(self):
        draw = drawer_of([1])
        self.assertEqual([draw(), draw(), draw()], [1, 0, 0])
        draw = drawer_of([1, 1, 1])
        self.assertEqual([draw() for turn in range(5)], [1, 1, 1, 0, 0])

    def test_the_empty_list(self):
        draw = drawer_of([])
        self.assertEqual([draw(), draw()], [0, 0])

    def test_two_drawers_of_one_list(self):
        numbers = [1, 0, 1]
        one = drawer_of(numbers)
        self.assertEqual(one(), 1)
        other = drawer_of(numbers)
        self.assertEqual([one(), other(), one(), other(), one(), other(), other()], [0, 1, 1, 0, 0, 1, 0])

    def test_the_list_changed_behind_changes_nothing(self):
        numbers = [1, 0, 1]
        draw = drawer_of(numbers)
        numbers.clear()
        self.assertEqual(draw(), 1)
        numbers.extend([1, 1, 1, 1, 1])
        self.assertEqual([draw(), draw(), draw()], [0, 1, 0])
        self.assertEqual(numbers, [1] * 5)

    def test_what_is_handed_in_stays(self):
        numbers = [5, -2, 7]
        draw = drawer_of(numbers)
        for turn in range(5):
            draw()
        self.assertEqual(numbers, [5, -2, 7])

    def test_the_argument_has_its_name(self):
        self.assertEqual(drawer_of(numbers=[3])(), 1)


class RunWork(Refusing):
    def machines(self, n):
        return [Signs(n)] + ([Exact(n)] if n < 7 else [])

    def test_none(self):
        for n in (1, 6, 40):
            for machine in self.machines(n):
                before = state_of(machine)
                self.assertEqual(run_work(machine, []), [])
                self.assertEqual(state_of(machine), before)

    def test_deeds_and_looks_in_their_order(self):
        for machine in self.machines(2):
            work = [("look", 0, 1), ("both", 0), ("look", 0, 1), ("look", 0, 1), ("over", 1), ("look", 0, 2),
                    ("look", 1, 0), ("where", 0, 1), ("look", 2, 2)]
            told = run_work(machine, work, drawer_of([1, 0, 1]))
            self.assertEqual(told, [(0, True), (1, False), (1, True), (1, True), (0, False), (1, False)])
            self.assertIs(type(told), list)

    def test_deeds_alone(self):
        chance = random.Random(28)
        for n in (1, 3, 6):
            work = random_work(chance, n, 80)
            draw = Drawn(1)
            for machine in self.machines(n):
                self.assertEqual(run_work(machine, work, draw), [])
            one = Exact(n)
            for words in work:
                one.do(words)
            other = Exact(n)
            run_work(other, work)
            self.assertEqual(one.whole(), other.whole())
            self.assertEqual(draw.calls, 0)

    def test_a_work_goes_on_from_where_the_machine_is(self):
        for machine in self.machines(1):
            run_work(machine, [("over", 0)])
            self.assertEqual(run_work(machine, [("look", 0, 1)]), [(1, True)])

    def test_without_a_drawer_each_value_drawn_is_0(self):
        work = [("look", 1, 0), ("look", 0, 1), ("look", 1, 1), ("look", 1, 0)]
        for draw in ([], [None]):
            for machine in self.machines(1):
                self.assertEqual(run_work(machine, work, *draw), [(0, False)] * 4)

    def test_the_drawer_is_called_once_for_each_free_look(self):
        for machine in self.machines(3):
            draw = Drawn(1)
            work = [("look", 0, 1), ("both", 0), ("look", 0, 1), ("look", 0, 1), ("look", 7, 0), ("look", 0, 7)]
            told = run_work(machine, work, draw)
            self.assertEqual([sure for value, sure in told], [True, False, True, False, False])
            self.assertEqual(draw.calls, 3)

    def test_a_told_list_is_new_and_the_work_stays(self):
        for machine in self.machines(2):
            work = [("both", 0), ("look", 0, 1)]
            told = run_work(machine, work)
            told.append("x")
            self.assertEqual(work, [("both", 0), ("look", 0, 1)])
            self.assertEqual(run_work(machine, work[1:]), [(0, True)])

    def test_a_drawer_that_changes_the_list_changes_nothing(self):
        for machine in self.machines(1):
            work = [("look", 1, 0), ("look", 1, 0), ("look", 0, 1)]

            def draw():
                work.clear()
                return 1

            self.assertEqual(run_work(machine, work, draw), [(1, False), (1, True), (1, False)])

    def refusals(self, n):
        beyond = 1 << n
        return [
            (NoDeed, [None, 0, "over 0", "look", [], {}, (), ("over",), ("over", 0, 0), ("look",), ("look", 1),
                      ("look", 1, 0, 0), ["look", 1, 0], ["over", 0], ("Look", 1, 0), ("where", 0, 0), ("over", True),
                      ("x", 1, 0), (0, 1, 0), ("over", None), object(), ("where", 0, "1"), (None, 1, 1)]),
            (NoWire, [("over", n), ("over", -1), ("where", 0, n), ("swap", 10 ** 60, 0), ("back", 99)]),
            (NoRow, [("look", beyond, 0), ("look", 0, beyond), ("look", -1, 0), ("look", True, 0), ("look", None, 1),
                     ("look", "x", "z"), ("look", 0, 1.0), ("look", (), []), ("look", 10 ** 60, 0), ("look", 0, False)]),
            (NoLook, [("look", 0, 0)]),
        ]

    def test_the_first_wrong_thing_decides(self):
        for n in (2, 6, 7, 40):
            told = self.refusals(n)
            for kind, wrongs in told:
                for wrong in wrongs:
                    for last in (None, ("over", n), ("look", 0, 0), ("look", -1, 0)):
                        ahead = [("both", 0), ("look", 0, 1), ("over", 1), ("look", 3, 0)]
                        self.check(kind, n, [wrong, last])
                        self.check(kind, n, ahead + [wrong, ("over", 0), last])
                    self.check(kind, n, [("over", 0)] * 79 + [wrong])
                    self.check(kind, n, [wrong])

    def check(self, kind, n, work):
        before_work = list(work)
        for machine in self.machines(n):
            machine.do(("both", 0))
            before = state_of(machine)
            draw = Drawn(1)
            self.refused(kind, run_work, machine, work, draw)
            self.refused(kind, run_work, machine, work)
            self.assertEqual(draw.calls, 0)
            self.assertEqual(state_of(machine), before)
        self.assertEqual(work, before_work)

    def test_the_arguments_have_their_names(self):
        self.assertEqual(run_work(machine=Signs(1), work=[("look", 1, 0)], draw=lambda: 1), [(1, False)])


class BothMachines(unittest.TestCase):
    def check_rows_leave(self, signs, exact):
        whole = exact.whole()
        for row in signs.rows():
            self.assertEqual(by_row(row, whole, exact.wires()), whole)

    def test_deeds_alone(self):
        chance = random.Random(21)
        for n in range(1, 7):
            for many in (0, 1, 5, 20, 80):
                work = random_work(chance, n, many)
                signs, exact = Signs(n), Exact(n)
                run_work(signs, work)
                run_work(exact, work)
                self.check_rows_leave(signs, exact)

    def test_with_looks(self):
        chance = random.Random(29)
        seen = []
        for n in range(1, 7):
            for many in (1, 5, 20, 40, 80):
                for turn in range(6):
                    work = random_work_with_looks(chance, n, many)
                    numbers = [chance.randint(-(10 ** 9), 10 ** 9) for look in range(many)]
                    signs, exact = Signs(n), Exact(n)
                    told = run_work(signs, work, drawer_of(numbers))
                    self.assertEqual(run_work(exact, work, drawer_of(numbers)), told)
                    self.assertEqual(len(told), len([step for step in work if step[0] == "look"]))
                    self.check_rows_leave(signs, exact)
                    seen += told
        for told in ((0, True), (1, True), (0, False), (1, False)):
            self.assertGreater(seen.count(told), 50)

    def test_the_same_in_pieces(self):
        chance = random.Random(30)
        for n in (7, 20, 40):
            work = random_work_with_looks(chance, n, 80)
            numbers = [chance.getrandbits(20) for turn in range(80)]
            one, other = Signs(n), Signs(n)
            whole = run_work(one, work, drawer_of(numbers))
            draw = drawer_of(numbers)
            pieces = run_work(other, work[:31], draw) + run_work(other, work[31:], draw)
            self.assertEqual(whole, pieces)
            for row in one.rows():
                self.assertTrue(is_one_of(row, other.rows(), n))

    def test_deeds_alone_keep_the_rows_of_the_work(self):
        chance = random.Random(31)
        for n in (7, 40):
            work = random_work(chance, n, 80)
            machine = Signs(n)
            run_work(machine, work)
            for row in rows_of_work(work, n):
                self.assertTrue(is_one_of(row, machine.rows(), n))


if __name__ == "__main__":
    unittest.main()
