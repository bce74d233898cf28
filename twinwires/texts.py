"""Texts of rows, works and wholes."""

from twinwires.bits import bit_at
from twinwires.deeds import deed_of
from twinwires.errors import NoDeed, NoText, NoWire
from twinwires.rows import XS, ZS, letters_of, row_of, weight_of
from twinwires.runs import is_look, look_row

FIGURES = "0123456789"
MOST_FIGURES = 60


def show_rows(rows, n):
    return "\n".join([letters_of(row, n) for row in rows])


def show_work(work, n):
    return "; ".join([show_step(step, n) for step in work])


def show_step(step, n):
    if is_look(step):
        return "look " + letters_of(look_row(step), n)[1:]
    return " ".join([str(word) for word in step])


def show_whole(whole, n):
    return "\n".join([show_amount(b, whole[b], n) for b in sorted(whole)])


def show_amount(b, pair, n):
    figures = "".join([str(bit_at(b, k)) for k in range(n - 1, -1, -1)])
    return " ".join([figures, str(pair[0]), str(pair[1])])


def read_number(text):
    if len(text) == 0 or len(text) > MOST_FIGURES:
        raise NoText("a number has one to sixty figures")
    if not all([sign in FIGURES for sign in text]):
        raise NoText("a number is written by figures alone")
    if text[0] == "0" and len(text) > 1:
        raise NoText("no nought stands ahead of a number")
    return int(text)


def read_row(text, n):
    row = row_of(text)
    if len(text) != n + 1:
        raise NoText("a row's text has a sign for each wire")
    return row


def read_work(text, n):
    if not isinstance(text, str):
        raise NoText("a work is read from a text")
    if text == "":
        return []
    return [read_step(part, n) for part in text.split("; ")]


def read_step(text, n):
    words = text.split(" ")
    if words[0] == "look":
        return read_look(" ".join(words[1:]), n)
    step = tuple([words[0]] + [read_number(word) for word in words[1:]])
    try:
        deed_of(step, n)
    except (NoDeed, NoWire):
        raise NoText("a work's text has deeds for its wires, and looks") from None
    return step


def read_look(letters, n):
    row = read_row("+" + letters, n)
    if weight_of(row) == 0:
        raise NoText("a look has a letter")
    return ("look", row[XS], row[ZS])
