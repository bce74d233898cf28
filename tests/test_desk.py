"""Points 52 and 53: the desk."""

import random
import unittest

from helpers import (Refusing, beside_by_letters, by_row, by_work, is_one_of, random_look, random_work,
                     random_work_with_looks, rows_of_work, same_by_a_factor)

from twinwires.desk import Desk
from twinwires.errors import NoCode, NoDeed, NoLine, NoMend, NoWire, NoWires
from twinwires.exact import Exact
from twinwires.likeness import alike
from twinwires.rows import row_of
from twinwires.runs import drawer_of, run_work
from twinwires.signs import Signs
from twinwires.tellings import telling
from twinwires.texts import read_work, show_rows, show_whole, show_work

FIVE = "+xzzx. +.xzzx +x.xzz +zx.xz"


def desk_behind(*rows):
    desk = Desk()
    for row in rows:
        desk.say(row)
    return desk


class Saying(Refusing):
    def answers(self, desk, *pairs):
        for row, answer in pairs:
            told = desk.say(row)
            self.assertIs(type(told), str)
            self.assertEqual(told, answer, row)

    def snapshot(self, desk):
        """All that the desk keeps, as far as it can be asked for without changing it."""
        told = {}
        questions = ["telling", "whole", "mends 1", "mends 2"]
        questions += [word + name for word in ("same ", "shorter ", "undone ") for name in ("a", "b", "pair", "looks")]
        for row in questions:
            try:
                told[row] = desk.say(row)
            except (NoLine, NoDeed, NoWires) as refusal:
                told[row] = type(refusal).__name__
        return told


class AtFirst(Saying):
    def test_one_wire_up(self):
        self.answers(Desk(), ("telling", "+z"), ("whole", "0 1 0"), ("made", ""), ("common", "0"), ("common 0", "0"))

    def test_each_value_drawn_is_0(self):
        self.answers(Desk(), ("do both 0; look z; look z; look x; look x", "0 free; 0 sure; 0 free; 0 sure"))

    def test_nothing_else_is_kept(self):
        for row in ("same a", "alike a a", "shorter a", "undone a", "signs +x", "mends 0", "guess 0"):
            self.refused(NoLine, Desk().say, row)

    def test_two_desks_go_on_each_by_itself(self):
        one, other = Desk(), Desk()
        one.say("do over 0")
        one.say("keep a")
        one.say("work a over 0")
        one.say("code +z")
        self.answers(other, ("telling", "+z"), ("whole", "0 1 0"))
        for row in ("same a", "shorter a", "mends 0"):
            self.refused(NoLine, other.say, row)

    def test_the_argument_has_its_name(self):
        self.assertEqual(Desk().say(row="telling"), "+z")


class Wires(Saying):
    def test_each_number(self):
        desk = Desk()
        for n in range(1, 41):
            self.answers(desk, (f"wires {n}", "ok"))
            rows = ["+" + "." * k + "z" + "." * (n - k - 1) for k in range(n)]
            self.answers(desk, ("telling", "\n".join(rows)))
            if n < 7:
                self.answers(desk, ("whole", "0" * n + " 1 0"))
            else:
                self.refused(NoWires, desk.say, "whole")

    def test_sets_all_else_as_at_first(self):
        for n in (1, 2, 3, 7):
            desk = desk_behind("wires 2", "draws 1 1 1 1", "do both 0; where 0 1", "keep a", "work b over 0", "code +zz")
            self.answers(desk, (f"wires {n}", "ok"))
            for row in ("same a", "shorter b", "undone b", "alike b b", "mends 0", "guess 0 0", "signs +" + "x" * n):
                self.refused(NoLine, desk.say, row)
            self.answers(desk, ("telling", show_rows(telling(Signs(n).rows(), n), n)),
                         ("do look " + "x" * n, "0 free"))

    def test_refusals_change_nothing(self):
        desk = desk_behind("wires 2", "draws 1", "do both 0; where 0 1", "keep a", "work a over 0", "code +zz")
        before = self.snapshot(desk)
        for number in ("0", "41", "42", "100", "9" * 60):
            self.refused(NoWires, desk.say, "wires " + number)
            self.assertEqual(self.snapshot(desk), before)
        for row in ("wires", "wires ", "wires  3", "wires 3 ", "wires 03", "wires +3", "wires -1", "wires 3 3", "wires x",
                    "wires 3.", "wires " + "9" * 61, "wires " + "0" * 2, "wires\n3", "wires 3\n", "wires \u0663",
                    "Wires 3", " wires 3"):
            self.refused(NoLine, desk.say, row)
            self.assertEqual(self.snapshot(desk), before)
        # The drawer is as it was, too.
        self.answers(desk, ("do look zz; look z.", "0 sure; 1 free"))


class Doing(Saying):
    def test_by_hand(self):
        desk = desk_behind("wires 2")
        self.answers(desk, ("do both 0; where 0 1", "ok"), ("telling", "+xx\n+zz"), ("whole", "00 1 0\n11 1 0"),
                     ("do look zz; look xx; look yy", "0 sure; 0 sure; 1 sure"), ("draws 1", "ok"),
                     ("do look z.; look .z", "1 free; 1 sure"), ("telling", "-z.\n-.z"), ("do over 0; look zz", "1 sure"))
        self.assertTrue(same_by_a_factor(read_whole(desk.say("whole")), {2: (1, 0)}))

    def test_the_work_without_any(self):
        desk = desk_behind("wires 2", "do over 0")
        self.answers(desk, ("do ", "ok"), ("telling", "-z.\n+.z"))
        self.refused(NoLine, desk.say, "do")

    def test_a_drawer_goes_on_from_one_row_to_the_next(self):
        desk = desk_behind("draws 1 0 1")
        self.answers(desk, ("do look x", "1 free"), ("do look z; look z", "0 free; 0 sure"), ("do over 0", "ok"),
                     ("do look x; look z; look x", "1 free; 0 free; 0 free"), ("draws", "ok"), ("do look z", "0 free"))
        self.answers(desk, ("draws " + "9" * 60 + " 0 7", "ok"), ("do look x; look z; look x", "1 free; 0 free; 1 free"))

    def test_draws_anew(self):
        desk = desk_behind("draws 1 1 1 1", "do look x", "draws 0 1")
        self.answers(desk, ("do look z; look x; look z", "0 free; 1 free; 0 free"))

    def test_draws_refused(self):
        desk = desk_behind("draws 1")
        for row in ("draws ", "draws 1 ", "draws  1", "draws 01", "draws -1", "draws +1", "draws x", "draws 1,0",
                    "draws 1 1 x", "draws " + "1" * 61, "draws 0 " + "0" * 2, "draws\n0", "draws 0\n", "draws \u0661"):
            self.refused(NoLine, desk.say, row)
        self.answers(desk, ("do look x; look z", "1 free; 0 free"))

    def test_both_machines_do_the_same(self):
        chance = random.Random(52)
        for n in (1, 2, 3, 6, 7, 40):
            desk = desk_behind(f"wires {n}")
            numbers = [chance.getrandbits(9) for turn in range(60)]
            desk.say("draws " + " ".join(map(str, numbers)))
            signs, draw = Signs(n), drawer_of(numbers)
            exact, draw_too = Exact(n) if n < 7 else None, drawer_of(numbers)
            for turn in range(6):
                work = random_work_with_looks(chance, n, chance.choice((1, 5, 13)))
                told = run_work(signs, work, draw)
                expected = "; ".join(f"{value} {'sure' if sure else 'free'}" for value, sure in told) or "ok"
                self.answers(desk, ("do " + show_work(work, n), expected))
                self.answers(desk, ("telling", show_rows(telling(signs.rows(), n), n)))
                if exact:
                    run_work(exact, work, draw_too)
                    whole = read_whole(desk.say("whole"))
                    self.assertTrue(same_by_a_factor(whole, exact.whole()))
                    for row in signs.rows():
                        self.assertEqual(by_row(row, whole, n), whole)

    def test_the_whole_of_deeds_alone_number_by_number(self):
        chance = random.Random(53)
        for n in range(1, 7):
            work = random_work(chance, n, 60)
            desk = desk_behind(f"wires {n}", "do " + show_work(work, n))
            self.answers(desk, ("whole", show_whole(by_work(work, {0: (1, 0)}), n)))

    def test_refusals_change_nothing(self):
        desk = desk_behind("wires 2", "draws 1 1", "do both 0", "keep a")
        before = self.snapshot(desk)
        for work in ("look z.; over 2", "look z.; over", "look z.; look ..", "look z.; look z", "look z.; look zzz",
                     "look z.; where 0 0", "look z.; swap 1 1", "look z.;", "look z.; ", "look z. ", " look z.",
                     "look z.;look z.", "look +z.", "look z.; over 01", "over -1", "over  0", "over 0\n", "Over 0",
                     "look z.; over 99", "x", "0", ";", " ", "look z.; not 0", "over \u0660", "look ..", "over 2"):
            self.refused(NoLine, desk.say, "do " + work)
            self.assertEqual(self.snapshot(desk), before, work)
        # No value was drawn by any of them.
        self.answers(desk, ("do look z.; look x.; look z.", "1 free; 1 free; 0 free"))


def read_whole(text):
    told = {}
    for line in text.split("\n"):
        b, re, im = line.split(" ")
        told[int(b, 2)] = (int(re), int(im))
    return told


class Asking(Saying):
    def test_whole_of_more_than_six_wires(self):
        for n in (7, 8, 40):
            desk = desk_behind(f"wires {n}")
            self.refused(NoWires, desk.say, "whole")
            for row in ("whole ", "whole 1", " whole", "whole\n"):
                self.refused(NoLine, desk.say, row)
        self.answers(desk_behind("wires 6"), ("whole", "000000 1 0"))

    def test_made(self):
        chance = random.Random(54)
        for n in (1, 2, 5, 7, 40):
            desk = desk_behind(f"wires {n}", "do " + show_work(random_work(chance, n, 60), n), "keep a")
            work = desk.say("made")
            self.assertNotIn("look", work)
            other = desk_behind(f"wires {n}", "do " + work)
            self.assertEqual(other.say("telling"), desk.say("telling"))
            self.answers(desk, ("same a", "same"))

    def test_common(self):
        desk = desk_behind("wires 4", "do both 0; where 0 2; both 1; where 1 3")
        self.answers(desk, ("common", "0"), ("common 0", "1"), ("common 0 1", "2"), ("common 1 0", "2"), ("common 0 2", "0"),
                     ("common 3 1 2", "1"), ("common 0 1 2 3", "0"))
        for row in ("common 4", "common 0 4", "common 0 0", "common 0 1 0", "common " + "9" * 60):
            self.refused(NoWire, desk.say, row)
        for row in ("common ", "common 0 ", "common  0", "common 00", "common -1", "common x", "common 4 x", "common 0,1",
                    "common " + "9" * 61, "common 0\n"):
            self.refused(NoLine, desk.say, row)

    def test_telling_and_made_have_no_words_behind(self):
        for row in ("telling ", "telling a", "telling  ", "made ", "made 0", " made", "Telling", "tellings", "made\n"):
            self.refused(NoLine, Desk().say, row)


class Keeping(Saying):
    def test_same_and_parted(self):
        desk = desk_behind("wires 2", "keep a", "do both 0; where 0 1", "keep pair")
        self.answers(desk, ("same pair", "same"))
        self.check_parted(desk, "same a", rows_of_work([("both", 0), ("where", 0, 1)], 2), [(0, 0, 1), (0, 0, 2)], 2)
        self.answers(desk, ("do where 0 1; both 0", "ok"), ("same a", "same"), ("do over 1", "ok"))
        self.check_parted(desk, "same a", [(0, 0, 1), (1, 0, 2)], [(0, 0, 1), (0, 0, 2)], 2)

    def check_parted(self, desk, question, now, kept, n):
        answer = desk.say(question)
        self.assertRegex(answer, r"\Aparted [+-][xyz.]{%d}\Z" % n)
        row = row_of(answer[7:])
        self.assertTrue(is_one_of(row, now, n))
        self.assertFalse(is_one_of(row, kept, n))

    def test_some(self):
        chance = random.Random(55)
        for n in (1, 2, 3, 6, 7, 40):
            one, other = random_work(chance, n, 30), random_work(chance, n, 9) + [("over", 0)]
            desk = desk_behind(f"wires {n}", "do " + show_work(one, n), "keep a", "do " + show_work(other, n))
            now, kept = rows_of_work(one + other, n), rows_of_work(one, n)
            if all(is_one_of(row, kept, n) for row in now):
                self.answers(desk, ("same a", "same"))
            else:
                self.check_parted(desk, "same a", now, kept, n)

    def test_kept_anew(self):
        desk = desk_behind("keep a", "do over 0", "keep b")
        self.answers(desk, ("same a", "parted -z"), ("same b", "same"), ("keep a", "ok"), ("same a", "same"),
                     ("do over 0", "ok"), ("same a", "parted +z"), ("same b", "parted +z"))

    def test_names(self):
        for name in ("a", "z", "abcdefgh", "zzzzzzzz", "do", "wires", "same", "look"):
            desk = desk_behind("do over 0")
            self.answers(desk, ("keep " + name, "ok"), ("same " + name, "same"), (f"work {name} back 0", "ok"),
                         ("undone " + name, "quarter 0"), ("same " + name, "same"), (f"alike {name} {name}", "alike"))

    def test_what_is_no_name(self):
        desk = Desk()
        for name in ("", "abcdefghi", "A", "aB", "a1", "1", "a_b", "a-b", "\u00e9", "a\n", "\na", "a\t", "a.b", "\u0251",
                     "a" * 60, "+z", "a;"):
            for row in ("keep ", "same ", "work ", "shorter ", "undone "):
                self.refused(NoLine, desk.say, row + name)
            self.refused(NoLine, desk.say, f"work {name} over 0")
            self.refused(NoLine, desk.say, f"alike {name} {name}")
        for row in ("keep", "keep a b", "keep  a", "keep a ", "keep a  b", "same", "same a b"):
            self.refused(NoLine, desk.say, row)
        self.answers(desk, ("keep a", "ok"))
        for row in ("same a a", "same a ", "same  a", "same", "same A", "same b"):
            self.refused(NoLine, desk.say, row)

    def test_a_telling_and_a_work_by_one_name(self):
        desk = desk_behind("keep a", "work b over 0")
        for row in ("shorter a", "undone a", "alike a b", "alike b a", "alike a a", "same b"):
            self.refused(NoLine, desk.say, row)
        self.answers(desk, ("work a both 0", "ok"), ("keep b", "ok"), ("same a", "same"), ("shorter a", "both 0"),
                     ("same b", "same"), ("undone b", "over 0"))


class Works(Saying):
    def test_by_hand(self):
        desk = desk_behind("wires 2")
        self.answers(desk, ("work a over 0; quarter 1; over 0", "ok"), ("shorter a", "quarter 1"),
                     ("undone a", "over 0; back 1; over 0"), ("work b quarter 1", "ok"), ("alike a b", "alike"),
                     ("work c", "ok"), ("shorter c", ""), ("undone c", ""), ("work d ", "ok"), ("alike c d", "alike"),
                     ("work a over 0", "ok"), ("shorter a", "over 0"))
        # Nothing is done by keeping.
        self.answers(desk, ("telling", "+z.\n+.z"))

    def test_parted(self):
        chance = random.Random(56)
        for n in (1, 2, 3, 6, 7, 40):
            for turn in range(5):
                one, other = random_work(chance, n, 6), random_work(chance, n, 6)
                desk = desk_behind(f"wires {n}", "work one " + show_work(one, n), "work other " + show_work(other, n))
                answer = desk.say("alike one other")
                if alike(one, other, n):
                    self.assertEqual(answer, "alike")
                    continue
                lines = answer.split("\n")
                self.assertEqual([lines[0], len(lines)], ["parted", 3])
                beginning, row = read_work(lines[1], n), row_of(lines[2])
                self.assertEqual(len(lines[2]), n + 1)
                self.assertTrue(is_one_of(row, rows_of_work(beginning + one, n), n))
                self.assertFalse(is_one_of(row, rows_of_work(beginning + other, n), n))
                self.answers(desk, ("alike one one", "alike"))

    def test_a_work_with_a_look(self):
        desk = desk_behind("wires 2", "work a over 0", "work looks over 0; look zz", "work only look .x")
        for row in ("alike a looks", "alike looks a", "alike looks looks", "shorter looks", "undone looks", "shorter only",
                    "undone only", "alike only a"):
            self.refused(NoDeed, desk.say, row)
        # A name by which nothing is kept comes first.
        for row in ("alike looks b", "alike b looks"):
            self.refused(NoLine, desk.say, row)

    def test_refusals_change_nothing(self):
        desk = desk_behind("wires 2", "work a over 0")
        before = self.snapshot(desk)
        for row in ("work", "work ", "work  over 0", "work a  over 0", "work a over 0 ", "work a over 2", "work a over",
                    "work a look ..", "work a look z", "work a Over 0", "work a x", "work a b", "work a over 0;",
                    "work a over 00", "work a where 1 1", "work A over 0", "work over 0", "work a;over 0", "work a\nover 0"):
            self.refused(NoLine, desk.say, row)
            self.assertEqual(self.snapshot(desk), before, row)
        for row in ("alike", "alike a", "alike a ", "alike a a a", "alike  a a", "alike a  a", "alike a b", "alike b a",
                    "shorter", "shorter ", "shorter b", "shorter a a", "shorter a ", "undone", "undone b", "undone a a",
                    "undone over 0", "shorter over 0"):
            self.refused(NoLine, desk.say, row)
            self.assertEqual(self.snapshot(desk), before, row)


class Codes(Saying):
    def test_five_wires(self):
        desk = desk_behind("wires 5")
        self.answers(desk, ("code " + FIVE, "ok"), ("signs +x....", "0001"), ("signs +.....", "0000"), ("mends 0", "mends"),
                     ("mends 1", "mends"), ("guess 1 0000", "+....."), ("guess 0 0000", "+....."),
                     ("guess 2 0001", "+x...."), ("guess 1 0001", "+x...."))
        self.refused(NoMend, desk.say, "guess 0 0001")
        self.check_parts(desk, 2, [row_of(text) for text in FIVE.split(" ")], 5)

    def check_parts(self, desk, many, rows, n):
        answer = desk.say(f"mends {many}")
        self.assertRegex(answer, r"\Aparts( [+-][xyz.]{%d}){3}\Z" % n)
        one, other, row = [row_of(text) for text in answer.split(" ")[1:]]
        for wrong in (one, other):
            self.assertEqual(wrong[0], 0)
            self.assertLessEqual(bin(wrong[1] | wrong[2]).count("1"), many)
        for check in rows:
            self.assertEqual(beside_by_letters(check, one, n), beside_by_letters(check, other, n))
            self.assertTrue(beside_by_letters(check, row, n))
        self.assertNotEqual(beside_by_letters(row, one, n), beside_by_letters(row, other, n))

    def test_the_code_without_rows(self):
        for n in (1, 2, 9):
            desk = desk_behind(f"wires {n}")
            self.answers(desk, ("code", "ok"), ("signs +" + "x" * n, ""), ("mends 0", "mends"),
                         ("guess 0", "+" + "." * n), ("guess 2", "+" + "." * n))
            self.check_parts(desk, 1, [], n)
            for row in ("guess", "guess ", "guess 1 ", "guess 1 0", "guess 1 00", "guess 3", "code "):
                self.refused(NoLine, desk.say, row)

    def test_kept_anew_and_rows_with_minus(self):
        desk = desk_behind("wires 3", "code -zz. +.zz")
        self.answers(desk, ("signs +x..", "10"), ("signs +.x.", "11"), ("code -.zz", "ok"), ("signs +x..", "0"),
                     ("signs +.x.", "1"))

    def test_no_code(self):
        desk = desk_behind("wires 2", "code +zz")
        before = self.snapshot(desk)
        for row in ("code +..", "code -..", "code +zz +zz", "code +zz -zz", "code +z. +x.", "code +z. +.z +zz",
                    "code +zz +xx -yy"):
            self.refused(NoCode, desk.say, row)
            self.assertEqual(self.snapshot(desk), before, row)
        for n in (10, 40):
            desk = desk_behind(f"wires {n}")
            for row in ("code", "code +" + "z" * n):
                self.refused(NoCode, desk.say, row)
            self.refused(NoLine, desk.say, "code +" + "z" * (n - 1))
            self.refused(NoLine, desk.say, "mends 0")

    def test_no_line(self):
        desk = desk_behind("wires 2", "code +zz")
        before = self.snapshot(desk)
        for row in ("code ", "code +zz ", "code  +zz", "code zz", "code +z", "code +zzz", "code +zz +z", "code +zz x",
                    "code +zz\n", "code +zz,+xx", "code +ZZ", "code +.. +z", "signs", "signs ", "signs +x", "signs +xxx",
                    "signs xx", "signs -x.", "signs -..", "signs +x. +x.", "signs  +x.", "signs +x. ", "mends", "mends ",
                    "mends 3", "mends 10", "mends -1", "mends 00", "mends 01", "mends x", "mends 1 1", "mends  1", "mends 1 ",
                    "mends " + "9" * 60, "mends +1", "guess", "guess 1", "guess 1 ", "guess 3 0", "guess 1 2", "guess 1 00",
                    "guess 1 0 0", "guess 01 0", "guess 1  0", "guess 1 0 ", "guess -1 0", "guess x 0", "guess 1 x",
                    "guess 0", "guess 1 \u0660", "guess 1 +", "guess 1 -1", "guess 1 \u00b9"):
            self.refused(NoLine, desk.say, row)
            self.assertEqual(self.snapshot(desk), before, row)

    def test_none_kept(self):
        for n in (2, 5, 9, 40):
            desk = desk_behind(f"wires {n}")
            for row in ("signs +" + "x" * n, "mends 0", "mends 2", "guess 0", "guess 1 0", "guess 1 01"):
                self.refused(NoLine, desk.say, row)

    def test_every_guess_of_a_code(self):
        desk = desk_behind("wires 3", "code +zz. +.zz")
        for figures in ("00", "01", "10", "11"):
            for many in (0, 1, 2):
                if many == 0 and figures != "00":
                    self.refused(NoMend, desk.say, f"guess {many} {figures}")
                else:
                    wrong = desk.say(f"guess {many} {figures}")
                    self.assertEqual(desk.say("signs " + wrong), figures)
                    self.assertEqual(len(wrong.replace(".", "")) - 1, 0 if figures == "00" else 1)


class NoLines(Saying):
    def test_what_is_no_text(self):
        for thing in (None, 0, 1, True, 1.5, [], ["telling"], (), ("telling",), {}, b"telling", object(), str, Desk):
            self.refused(NoLine, Desk().say, thing)

    def test_what_is_none_of_the_rows(self):
        desk = desk_behind("wires 2", "do both 0", "keep a", "work a over 0", "code +zz")
        before = self.snapshot(desk)
        for row in ("", " ", "  ", "\n", "x", "look zz", "over 0", "Telling", "telling\n", "telling\ntelling", "do\nover 0",
                    "telling;", "; telling", "\ttelling", "rows", "help", "ok", "0", "+zz", "do over 0\n", "parted a",
                    "images a", "run over 0", "dO over 0", "do over 0; telling", "wires", "keep", "work", "same", "code\n",
                    "\u200btelling", "tellin", "telling telling"):
            self.refused(NoLine, desk.say, row)
            self.assertEqual(self.snapshot(desk), before, row)

    def test_every_row_with_a_blank_too_many(self):
        rows = ("wires 2", "draws 1 0", "do over 0", "telling", "whole", "keep a", "same a", "made", "common 0",
                "work a over 0", "alike a a", "shorter a", "undone a", "code +zz", "signs +xx", "mends 1", "guess 1 0")
        for row in rows:
            desk = desk_behind("wires 2", "keep a", "work a over 0", "code +zz")
            before = self.snapshot(desk)
            for place in [k for k, sign in enumerate(row) if sign == " "] + [0, len(row)]:
                self.refused(NoLine, desk.say, row[:place] + " " + row[place:])
            self.assertEqual(self.snapshot(desk), before)
            self.assertIs(type(desk.say(row)), str)


class ALongTalk(Saying):
    def test_rows_that_are_refused_between_change_nothing(self):
        chance = random.Random(57)
        for n in (2, 5, 9):
            plain, teased = desk_behind(f"wires {n}"), desk_behind(f"wires {n}")
            wrong = ["do look " + "x" * n + "; over 99", "wires 0", "wires 41", "draws x", "keep A", "work a over 99",
                     "code +" + "." * n, "same nothing", "mends 3", "x", "common 99", "do look " + "." * n, "wires"]
            for turn in range(60):
                row = chance.choice([
                    "do " + show_work(random_work_with_looks(chance, n, 5), n), "draws 1 1 0 1", "keep a", "telling",
                    "work a " + show_work(random_work(chance, n, 5), n), "code +" + "z" * n,
                    "do look " + show_rows([random_look(chance, n)], n)[1:], "made", "common 0"])
                for line in chance.sample(wrong, 3):
                    with self.assertRaises((NoLine, NoWires, NoWire, NoCode)):
                        teased.say(line)
                self.assertEqual(plain.say(row), teased.say(row))
            self.assertEqual(self.snapshot(plain), self.snapshot(teased))


if __name__ == "__main__":
    unittest.main()
