"""Works made from rows of a whole, and what some of its wires have in common with the others."""

from twinwires.bits import bit_at, is_whole_number, lowest_bit, places
from twinwires.errors import NoWire
from twinwires.rows import MINUS, XS, ZS, signs_number
from twinwires.spans import Span
from twinwires.tellings import check_whole
from twinwires.works import deeds_in, row_by, undone


def made(rows, n):
    check_whole(rows, n)
    # The deeds turn each row into z at a wire of its own: undone, they make of all wires up a whole with these rows.
    deeds = []
    free = (1 << n) - 1
    for row in rows:
        # The rows turned already are z at the other wires. Beside them this one can have but a z there,
        # which their product takes away.
        left = at_wires(row_by(deeds, row), free)
        deeds.extend(deeds_in(work_to_one_z(left), n))
        free = free ^ lowest_bit(left[XS] | left[ZS])
    return undone([deed.words() for deed in deeds])


def at_wires(row, wires):
    return (row[MINUS], row[XS] & wires, row[ZS] & wires)


def work_to_one_z(row):
    # It turns the row into z at its first wire alone, without minus.
    at = places(row[XS] | row[ZS])
    told = []
    for k in at:
        if bit_at(row[XS], k) == 1:
            if bit_at(row[ZS], k) == 1:
                told.append(("back", k))
            told.append(("both", k))
    for k in at[1:]:
        told.append(("where", k, at[0]))
    if row[MINUS] == 1:
        told.append(("over", at[0]))
    return told


def common(rows, wires, n):
    check_whole(rows, n)
    check_wires(wires, n)
    mask = sum([1 << k for k in wires])
    cut = [signs_number(at_wires(row, mask), n) for row in rows]
    return Span(cut).rank() - len(wires)


def check_wires(wires, n):
    for place, k in enumerate(wires):
        if not is_whole_number(k) or k < 0 or k >= n:
            raise NoWire("no wire has this number")
        if k in wires[:place]:
            raise NoWire("a wire is told once")
