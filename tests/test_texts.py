"""Points 48 to 51: rows, works and wholes as texts."""

import random
import unittest

from helpers import (DEEDS, Refusing, all_deeds, all_rows, letter_at, random_row, random_whole, random_work,
                     random_work_with_looks)

from twinwires.errors import NoText
from twinwires.texts import read_work, show_rows, show_whole, show_work

SOME_N = (1, 2, 3, 6, 7, 20, 39, 40)


def letters(xs, zs, n):
    return "".join(letter_at((0, xs, zs), k) or "." for k in range(n))


def written(work, n):
    """Point 49."""
    told = []
    for step in work:
        if step[0] == "look":
            told.append("look " + letters(step[1], step[2], n))
        else:
            told.append(step[0] + "".join(" %d" % k for k in step[1:]))
    return "; ".join(told)


class ShowRows(unittest.TestCase):
    def test_by_hand(self):
        self.assertEqual(show_rows([(0, 0b1001, 0b1100)], 4), "+x.zy")
        self.assertEqual(show_rows([(1, 3, 0), (0, 0, 3)], 2), "-xx\n+zz")
        self.assertEqual(show_rows([], 2), "")
        self.assertEqual(show_rows([(0, 0, 0)], 3), "+...")

    def test_some(self):
        chance = random.Random(48)
        for n in SOME_N:
            rows = [random_row(chance, n) for turn in range(n)]
            before = list(rows)
            told = show_rows(rows, n)
            self.assertIs(type(told), str)
            self.assertEqual(told.split("\n"), ["+-"[row[0]] + letters(row[1], row[2], n) for row in rows])
            self.assertEqual(rows, before)

    def test_the_arguments_have_their_names(self):
        self.assertEqual(show_rows(rows=[(0, 1, 1)], n=1), "+y")


class ShowWork(unittest.TestCase):
    def test_by_hand(self):
        self.assertEqual(show_work([], 2), "")
        self.assertEqual(show_work([("both", 0), ("where", 0, 1), ("look", 0, 3)], 2), "both 0; where 0 1; look zz")
        self.assertEqual(show_work([("swap", 39, 10)], 40), "swap 39 10")
        self.assertEqual(show_work([("look", 9, 12)], 4), "look x.zy")

    def test_some(self):
        chance = random.Random(49)
        for n in SOME_N:
            for many in (0, 1, 10, 80):
                work = random_work_with_looks(chance, n, many)
                before = list(work)
                told = show_work(work, n)
                self.assertIs(type(told), str)
                self.assertEqual(told, written(work, n))
                self.assertEqual(work, before)

    def test_the_arguments_have_their_names(self):
        self.assertEqual(show_work(work=[("look", 1, 0)], n=1), "look x")


class ShowWhole(unittest.TestCase):
    def test_the_documents_own(self):
        self.assertEqual(show_whole({0: (1, 0), 3: (0, -1)}, 2), "00 1 0\n11 0 -1")
        self.assertEqual(show_whole({3: (0, -1), 0: (1, 0)}, 2), "00 1 0\n11 0 -1")

    def test_wire_0_is_the_last_figure(self):
        self.assertEqual(show_whole({1: (1, 0)}, 3), "001 1 0")
        self.assertEqual(show_whole({4: (0, 1)}, 3), "100 0 1")
        self.assertEqual(show_whole({0: (-7, 10)}, 1), "0 -7 10")
        self.assertEqual(show_whole({1: (-7, 10)}, 6), "000001 -7 10")

    def test_numbers_of_many_figures(self):
        for figures in (1, 2, 20, 60, 61, 400, 4000):
            much = 10 ** figures - 1
            for number in (much, -much, 10 ** (figures - 1)):
                text = "-" * (number < 0) + ("9" * figures if abs(number) == much else "1" + "0" * (figures - 1))
                self.assertEqual(show_whole({2: (number, 0)}, 2), "10 " + text + " 0")
                self.assertEqual(show_whole({2: (0, number)}, 2), "10 0 " + text)

    def test_some_in_any_order(self):
        chance = random.Random(51)
        for n in range(1, 7):
            for turn in range(10):
                whole = random_whole(chance, n, chance.choice((1, 3, 60)))
                rows = list(whole)
                chance.shuffle(rows)
                turned = {b: whole[b] for b in rows}
                expected = "\n".join("%s %d %d" % (bin(b)[2:].rjust(n, "0"), *whole[b]) for b in sorted(whole))
                self.assertEqual(show_whole(turned, n), expected)
                self.assertEqual(list(turned), rows)

    def test_the_arguments_have_their_names(self):
        self.assertEqual(show_whole(whole={0: (1, 0)}, n=1), "0 1 0")


class ReadWork(Refusing):
    def check(self, work, n):
        text = written(work, n)
        told = read_work(text, n)
        self.assertEqual(told, work)
        self.assertIs(type(told), list)
        for step in told:
            self.assertIs(type(step), tuple)
            self.assertEqual([type(part) for part in step], [str] + [int] * (len(step) - 1))
        self.assertEqual(show_work(told, n), text)
        told.append(None)
        self.assertEqual(read_work(text, n), work)

    def test_what_is_written_is_read(self):
        chance = random.Random(50)
        for n in range(1, 41):
            for many in (0, 1, 2, 20, 80):
                self.check(random_work_with_looks(chance, n, many), n)
                self.check(random_work(chance, n, many), n)

    def test_every_deed_and_look_of_few_wires(self):
        for n in (1, 2, 3):
            for words in all_deeds(n):
                self.check([words], n)
            for row in all_rows(n):
                if row[0] == 0 and row != (0, 0, 0):
                    self.check([("look", row[1], row[2])], n)

    def test_more_than_eighty(self):
        self.check([("over", 0), ("look", 1, 0)] * 200, 1)

    def test_wires_at_the_edge(self):
        for n in range(1, 41):
            self.check([("over", n - 1)], n)
            self.refused(NoText, read_work, "over %d" % n, n)
            self.refused(NoText, read_work, "over %d" % (n + 1), n)
            self.check([("look", 0, 1 << n - 1)], n)

    def wrong(self, *texts, n=3):
        for text in texts:
            self.refused(NoText, read_work, text, n)

    def test_blanks_too_many_or_few(self):
        self.wrong(" ", "  ", " over 0", "over 0 ", "over  0", "over0", "where 01", "where 0  1", "where  0 1", "where0 1",
                   "look xyz ", "look  xyz", "lookxyz", " look xyz", "look x yz", "over 0;over 1", "over 0;  over 1",
                   "over 0 ; over 1", "over\t0", "over\u00a00", "over 0;\tover 1")

    def test_semicolons_too_many_or_few(self):
        self.wrong(";", "; ", "over 0;", "over 0; ", "; over 0", ";over 0", "over 0;; over 1", "over 0; ; over 1",
                   "over 0 over 1", "over 0, over 1", "over 0: over 1", "over 0; over 1;", "over 0; over 1; ")

    def test_numbers(self):
        self.wrong("over 00", "over 01", "over +1", "over -0", "over -1", "over 1.", "over 0x1", "over 1_0", "over 1e0",
                   "over", "over ", "over a", "over None", "over 3", "over 99", "over " + "9" * 60, "over " + "9" * 61,
                   "over " + "0" * 60, "over " + "9" * 5000, "where 0 3", "where 3 0", "where 0 00", "where 00 1")
        self.wrong("over 1_0", "over 010", "over 10_", n=40)

    def test_figures_that_are_none_of_0_to_9(self):
        self.wrong("over \u0661", "over \u00b9", "over \uff11", "over \u0967", "over \u2460", "over 1\u0661", "over \u2081")

    def test_words(self):
        self.wrong("Over 0", "OVER 0", "x", "0", "over 0 1", "where 0", "where 0 1 2", "swap 1", "swap 0 1 2", "not 0",
                   "look", "look ", "0 over", "over 0\n", "\nover 0", "over 0;\nover 1", "over 0\nover 1", "overs 0",
                   "over 0\r", "over 0\0", "both", "(over 0)", "'over' 0", "over, 0")

    def test_alike_wires(self):
        self.wrong("where 0 0", "swap 2 2", "swap 3 3", "over 0; where 1 1")

    def test_looks(self):
        self.wrong("look ...", "look +xyz", "look -xyz", "look xy", "look xyzx", "look x", "look XYZ", "look xy0",
                   "look 1 0", "look 3 3", "Look xyz", "look xyz\n", "look xy\n", "look +..", "look +x.", "look x,z",
                   "look xy z", "over 0; look ...", "look " + "x" * 41)
        for n in SOME_N:
            self.wrong("look " + "." * n, "look " + "x" * (n - 1), "look " + "x" * (n + 1), "look +" + "x" * n,
                       "look +" + "x" * (n - 1), n=n)

    def test_what_is_no_text(self):
        for thing in (None, 0, 1, True, 1.5, [], [("over", 0)], (), ("over", 0), {}, set(), b"", b"over 0", object(), str):
            for n in (1, 3, 40):
                self.refused(NoText, read_work, thing, n)

    def test_one_sign_more_or_other(self):
        """Each text with a sign put in, taken out or exchanged is refused, or is the text of another work."""
        signs = " ;.:0123xyzovew+-\n\tAX"
        for text, n in (("over 1", 3), ("both 0; where 0 1; look zz", 2), ("swap 1 0; look x.", 2), ("quarter 10", 11)):
            others = set()
            for place in range(len(text) + 1):
                others.add(text[:place] + text[place + 1:])
                for sign in signs:
                    others.add(text[:place] + sign + text[place:])
                    others.add(text[:place] + sign + text[place + 1:])
            for other in sorted(others):
                try:
                    told = read_work(other, n)
                except NoText:
                    continue
                self.assertEqual(written(told, n), other)
                for step in told:
                    if step[0] == "look":
                        self.assertNotEqual(step[1:], (0, 0))
                        self.assertTrue(max(step[1:]) < 1 << n)
                    else:
                        self.assertEqual(len(step), 1 + DEEDS[step[0]])
                        self.assertTrue(all(0 <= k < n for k in step[1:]))
                        self.assertEqual(len(set(step[1:])), len(step) - 1)

    def test_the_arguments_have_their_names(self):
        self.assertEqual(read_work(text="over 0", n=1), [("over", 0)])


if __name__ == "__main__":
    unittest.main()
