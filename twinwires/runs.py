"""Works with looks, run with a machine, and drawers made of numbers."""

from twinwires.deeds import deed_of
from twinwires.machines import check_look


class Draws:
    # What a drawer keeps: the bits that it tells, and how many of them it has told.
    def __init__(self, numbers):
        self.bits = [number & 1 for number in numbers]
        self.told = 0

    def draw(self):
        if self.told == len(self.bits):
            return 0
        self.told = self.told + 1
        return self.bits[self.told - 1]


def drawer_of(numbers):
    draws = Draws(numbers)
    return lambda: draws.draw()


def run_work(machine, work, draw=None):
    # A list of its own: a drawer may change the one handed in.
    steps = list(work)
    for step in steps:
        check_step(step, machine.wires())
    told = []
    for step in steps:
        if is_look(step):
            told.append(machine.look(look_row(step), draw))
        else:
            machine.do(step)
    return told


def check_step(step, n):
    if is_look(step):
        check_look(look_row(step), n)
    else:
        deed_of(step, n)


def is_look(step):
    return isinstance(step, tuple) and len(step) == 3 and step[0] == "look"


def look_row(look):
    return (0, look[1], look[2])
