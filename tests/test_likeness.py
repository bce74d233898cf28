"""Points 35 to 38: works that do the same, what parts them, and works made shorter."""

import random
import unittest

from helpers import (Refusing, all_deeds, by_row, by_work, is_one_of, random_deed, random_whole, random_work, row_by_work,
                     rows_of_work, same_by_a_factor)

from twinwires.errors import NoDeed, NoWire
from twinwires.likeness import alike, images, parted, shorter
from twinwires.works import undone

SOME_N = (1, 2, 3, 6, 7, 20, 39, 40)

# Works of two wires that do the same.
SAME = [
    ([], [("over", 0), ("over", 0)]),
    ([("quarter", 0)] * 4, []),
    ([("quarter", 0), ("quarter", 0)], [("back", 0), ("back", 0)]),
    ([("swap", 0, 1)], [("swap", 1, 0)]),
    ([("swap", 0, 1)], [("where", 0, 1), ("where", 1, 0), ("where", 0, 1)]),
    ([("both", 0), ("over", 0), ("both", 0)], [("quarter", 0), ("quarter", 0)]),
    ([("both", 0), ("both", 1), ("where", 0, 1), ("both", 0), ("both", 1)], [("where", 1, 0)]),
    ([("over", 0), ("both", 1)], [("both", 1), ("over", 0)]),
    # Alike but for a factor that is neither 1 nor -1.
    ([("quarter", 0), ("over", 0), ("quarter", 0), ("over", 0)], []),
    # The factor is a fraction of an eighth of a turn.
    ([("both", 0), ("quarter", 0)] * 3, []),
]
UNLIKE = [
    ([], [("over", 0)]), ([], [("quarter", 0)]), ([("quarter", 0)], [("back", 0)]), ([], [("both", 0)]),
    ([], [("swap", 0, 1)]), ([("where", 0, 1)], [("where", 1, 0)]), ([("over", 0)], [("over", 1)]),
    # These do the same to all wires up.
    ([], [("where", 0, 1)]), ([("where", 0, 1)], [("swap", 0, 1)]), ([], [("quarter", 0), ("quarter", 0)]),
    ([("quarter", 0)], [("quarter", 1)]), ([("back", 1), ("swap", 0, 1)], [("where", 1, 0)]),
]


def same_to_every_whole(one, other, n):
    """Point 36: what each number becomes, by one factor for all of them."""
    told = []
    for work in (one, other):
        behind = {}
        for b in range(1 << n):
            for reached, pair in by_work(work, {b: (1, 0)}).items():
                behind[b, reached] = pair
        told.append(behind)
    return same_by_a_factor(*told)


def look_in(work):
    return work[:1] + [("look", 0, 1)] + work[1:]


class Images(unittest.TestCase):
    def test_at_first(self):
        for n in range(1, 41):
            expected = []
            for k in range(n):
                expected += [(0, 0, 1 << k), (0, 1 << k, 0)]
            told = images([], n)
            self.assertEqual(told, expected)
            self.assertIs(type(told), list)

    def test_by_hand(self):
        self.assertEqual(images([("quarter", 0)], 1), [(0, 0, 1), (0, 1, 1)])
        self.assertEqual(images([("where", 0, 1)], 2), [(0, 0, 1), (0, 3, 0), (0, 0, 3), (0, 2, 0)])

    def test_behind_works(self):
        chance = random.Random(35)
        for n in SOME_N:
            for many in (0, 1, 10, 80):
                work = random_work(chance, n, many)
                before = list(work)
                told = images(work, n)
                self.assertEqual(len(told), 2 * n)
                for k in range(n):
                    self.assertEqual(told[2 * k], row_by_work(work, (0, 0, 1 << k)))
                    self.assertEqual(told[2 * k + 1], row_by_work(work, (0, 1 << k, 0)))
                self.assertEqual(work, before)

    def test_what_is_told_is_the_askers_own(self):
        work = [("over", 0)]
        told = images(work, 2)
        expected = list(told)
        told.clear()
        self.assertEqual(images(work, 2), expected)

    def test_the_arguments_have_their_names(self):
        self.assertEqual(images(work=[("both", 0)], n=1), [(0, 1, 0), (0, 0, 1)])


class Pairs(Refusing):
    def check(self, one, other, n, same):
        before = (list(one), list(other))
        for first, second in ((one, other), (other, one)):
            self.assertIs(alike(first, second, n), same, (first, second))
            told = parted(first, second, n)
            if same:
                self.assertIsNone(told)
            else:
                self.check_parted(told, first, second, n)
        self.assertEqual((one, other), before)

    def check_parted(self, told, one, other, n):
        self.assertIs(type(told), tuple)
        beginning, row = told
        self.assertIs(type(beginning), list)
        self.assertEqual([type(row)] + [type(part) for part in row], [tuple, int, int, int])
        self.assertTrue(is_one_of(row, rows_of_work(beginning + one, n), n), (one, other, told))
        self.assertFalse(is_one_of(row, rows_of_work(beginning + other, n), n), (one, other, told))
        if n < 7:
            whole, second = by_work(beginning + one, {0: (1, 0)}), by_work(beginning + other, {0: (1, 0)})
            self.assertEqual(by_row(row, whole, n), whole)
            self.assertNotEqual(by_row(row, second, n), second)

    def test_by_hand(self):
        for n in (2, 3, 6, 7, 40):
            for one, other in SAME:
                self.check(one, other, n, True)
            for one, other in UNLIKE:
                self.check(one, other, n, False)

    def test_works_of_one_wire(self):
        deeds = all_deeds(1)
        works = [[]] + [[one] for one in deeds] + [[one, other] for one in deeds for other in deeds]
        for one in works:
            for other in works:
                self.check(one, other, 1, same_to_every_whole(one, other, 1))

    def test_works_of_two_and_three_wires(self):
        chance = random.Random(36)
        for n, turns in ((2, 300), (3, 150)):
            found = []
            for turn in range(turns):
                one = random_work(chance, n, chance.randint(0, 3))
                other = random_work(chance, n, chance.randint(0, 3))
                same = same_to_every_whole(one, other, n)
                self.check(one, other, n, same)
                found.append(same)
            self.assertIn(True, found)
            self.assertIn(False, found)

    def test_every_two_single_deeds_of_three_wires(self):
        works = [[]] + [[words] for words in all_deeds(3)]
        for one in works:
            for other in works:
                same = one == other or (one and other and one[0][0] == other[0][0] == "swap"
                                        and sorted(one[0][1:]) == sorted(other[0][1:]))
                self.check(one, other, 3, bool(same))

    def test_one_deed_more_in_a_long_work(self):
        chance = random.Random(37)
        for n in SOME_N:
            for turn in range(6):
                work = random_work(chance, n, 79)
                place = chance.randrange(80)
                longer = work[:place] + [random_deed(chance, n)] + work[place:]
                self.check(work, longer, n, False)

    def test_a_work_and_others_that_do_the_same(self):
        chance = random.Random(38)
        for n in SOME_N:
            work = random_work(chance, n, 30)
            place = chance.randrange(31)
            between = random_work(chance, n, 10)
            other = work[:place] + between + undone(between) + work[place:]
            self.check(work, other, n, True)
            if n < 7:
                whole = random_whole(chance, n, 2)
                self.assertTrue(same_by_a_factor(by_work(work, whole), by_work(other, whole)))

    def test_what_is_told_is_the_askers_own(self):
        one, other = [], [("where", 0, 1)]
        told = parted(one, other, 2)
        expected = (list(told[0]), told[1])
        told[0].append(("over", 0))
        self.assertEqual((one, other), ([], [("where", 0, 1)]))
        self.assertEqual(parted(one, other, 2), expected)

    def test_the_arguments_have_their_names(self):
        self.assertIs(alike(one=[], other=[("over", 0)], n=1), False)
        self.assertIsNone(parted(one=[], other=[], n=1))


def left_that_undo(work):
    """Point 38: two deeds of which the one undoes the other, none between them on a wire of theirs."""
    opposite = {"quarter": "back", "back": "quarter"}
    for b, second in enumerate(work):
        for a, first in enumerate(work[:b]):
            undoes = second == (opposite.get(first[0], first[0]),) + first[1:]
            if first[0] == second[0] == "swap":
                undoes = sorted(first[1:]) == sorted(second[1:])
            between = [words for words in work[a + 1:b] if set(words[1:]) & set(first[1:] + second[1:])]
            if undoes and not between:
                return (a, b)
    return None


def is_part_of(short, work):
    rest = iter(work)
    return all(words in rest for words in short)


class Shorter(unittest.TestCase):
    def check(self, work, n):
        before = list(work)
        told = shorter(work, n)
        self.assertEqual(work, before)
        self.assertIs(type(told), list)
        self.assertTrue(is_part_of(told, work), (work, told))
        self.assertTrue(alike(work, told, n), (work, told))
        self.assertIsNone(left_that_undo(told), (work, told))
        self.assertEqual(shorter(told, n), told)
        self.assertEqual(shorter(work + undone(work), n), [])
        self.assertEqual(shorter(told + undone(work), n), [])
        return told

    def test_by_hand(self):
        for work, told in (
                ([], []), ([("over", 0)], [("over", 0)]), ([("over", 0)] * 2, []), ([("over", 0)] * 3, [("over", 0)]),
                ([("both", 1)] * 2, []), ([("quarter", 0), ("back", 0)], []), ([("back", 0), ("quarter", 0)], []),
                ([("quarter", 0)] * 4, [("quarter", 0)] * 4), ([("back", 0)] * 2, [("back", 0)] * 2),
                ([("where", 0, 1)] * 2, []), ([("where", 0, 1), ("where", 1, 0)], [("where", 0, 1), ("where", 1, 0)]),
                ([("swap", 0, 1)] * 2, []), ([("swap", 0, 1), ("swap", 1, 0)], []),
                ([("swap", 2, 1), ("over", 0), ("swap", 1, 2)], [("over", 0)]),
                ([("where", 0, 1), ("over", 2), ("where", 0, 1)], [("over", 2)]),
                ([("over", 0), ("over", 1), ("over", 0)], [("over", 1)]),
                ([("over", 0), ("where", 0, 1), ("over", 0)], [("over", 0), ("where", 0, 1), ("over", 0)]),
                ([("where", 0, 1), ("over", 0), ("where", 0, 1)], [("where", 0, 1), ("over", 0), ("where", 0, 1)]),
                ([("where", 0, 1), ("over", 1), ("where", 0, 1)], [("where", 0, 1), ("over", 1), ("where", 0, 1)]),
                ([("where", 0, 1), ("where", 0, 2), ("where", 0, 1)],
                 [("where", 0, 1), ("where", 0, 2), ("where", 0, 1)]),
                ([("where", 0, 1), ("swap", 0, 1)], [("where", 0, 1), ("swap", 0, 1)]),
                ([("both", 0), ("over", 1), ("quarter", 0), ("back", 0), ("over", 1), ("both", 0)], [])):
            self.assertEqual(shorter(work, 3), told, work)
            self.check(work, 3)

    def test_some_works(self):
        chance = random.Random(38)
        fell = 0
        for n in (1, 2, 3, 4, 6, 7, 20, 40):
            for many in (0, 1, 2, 5, 20, 40):
                for turn in range(10):
                    work = random_work(chance, n, many)
                    fell += len(work) - len(self.check(work, n))
        self.assertGreater(fell, 300)

    def test_every_short_work_of_two_wires(self):
        deeds = all_deeds(2)
        for one in deeds:
            for other in deeds:
                self.check([one, other], 2)
        chance = random.Random(39)
        for turn in range(600):
            self.check([chance.choice(deeds) for place in range(chance.choice((3, 4, 5)))], 2)

    def test_pairs_put_in_fall_out(self):
        chance = random.Random(40)
        for n in SOME_N:
            work = shorter(random_work(chance, n, 30), n)
            place = chance.randrange(len(work) + 1)
            between = random_work(chance, n, 20)
            other = work[:place] + between + undone(between) + work[place:]
            self.assertTrue(len(self.check(other, n)) <= len(work))

    def test_what_is_told_is_the_askers_own(self):
        work = [("over", 0)]
        told = shorter(work, 1)
        self.assertIsNot(told, work)
        told.clear()
        self.assertEqual(work, [("over", 0)])
        self.assertEqual(shorter(work, 1), [("over", 0)])

    def test_the_arguments_have_their_names(self):
        self.assertEqual(shorter(work=[("over", 0)] * 2, n=1), [])


class Refusals(Refusing):
    WRONG = [("look", 0, 1), ("look", 0, 0), ("look", None, 1), ("over",), ("Over", 0), ["over", 0], None, 7, "over 0", (),
             ("where", 1, 1), ("swap", 9, 9), ("over", True), ("over", 0, 1)]
    BEYOND = [("over", 3), ("over", -1), ("where", 0, 3), ("swap", 10 ** 60, 0), ("both", 41)]

    def check(self, kind, work, n):
        right = [("over", 0), ("swap", 0, 1)]
        calls = [(images, work, n), (shorter, work, n), (alike, work, right, n), (alike, right, work, n),
                 (parted, work, right, n), (parted, right, work, n), (alike, work, work, n), (parted, work, work, n)]
        # The first work that has a fault decides, whatever the second one has.
        for other in ([("over", 3)], [None], [("look", 0, 1)], [("over", 0), ("over", 99)]):
            calls += [(alike, work, other, n), (parted, work, other, n)]
        for call, *args in calls:
            self.refused(kind, call, *args)

    def test_what_is_no_deed_or_is_a_look(self):
        for wrong in self.WRONG:
            self.check(NoDeed, [wrong], 3)
            self.check(NoDeed, [("over", 0), wrong, ("over", 3)], 3)
            self.check(NoDeed, [("over", 0)] * 79 + [wrong], 3)

    def test_a_wire_that_is_none(self):
        for beyond in self.BEYOND:
            self.check(NoWire, [beyond], 3)
            self.check(NoWire, [("over", 0), beyond, None, ("look", 0, 1)], 3)
            self.check(NoWire, [("over", 0)] * 79 + [beyond], 3)

    def test_looks_in_works(self):
        chance = random.Random(41)
        for n in (2, 6, 40):
            self.check(NoDeed, look_in(random_work(chance, n, 10)), n)


if __name__ == "__main__":
    unittest.main()
