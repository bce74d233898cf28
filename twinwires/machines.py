"""What the exact machine and the machine of rows have alike: wires, deeds and looks."""

from twinwires.bits import is_whole_number
from twinwires.deeds import deed_of
from twinwires.errors import NoLook, NoWires
from twinwires.rows import MINUS, checked_row, weight_of


class Machine:
    # Each machine brings three methods of its own, which speak of what it keeps:
    # follow(deed) does a deed; sure_value(row) tells the value of a sure look, or None of a free one;
    # settle(row, value) makes the value that was drawn for a free look a sure one.
    def __init__(self, n, most):
        if not is_whole_number(n) or n < 1 or n > most:
            raise NoWires("a machine has one wire at least, and no more than it can keep")
        self.n = n

    def wires(self):
        return self.n

    def do(self, words):
        self.follow(deed_of(words, self.n))

    def look(self, row, draw=None):
        check_look(row, self.n)
        sure = self.sure_value(row)
        if sure is not None:
            return (sure, True)
        drawn = value_drawn(draw)
        self.settle(row, drawn)
        return (drawn, False)


def check_look(row, n):
    checked_row(row, n)
    if row[MINUS] == 1 or weight_of(row) == 0:
        raise NoLook("a machine is looked at by a row with a letter and without minus")


def value_drawn(draw):
    return 0 if draw is None else draw() & 1
