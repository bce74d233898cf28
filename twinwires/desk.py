"""The desk: it is told rows of words, and answers each by a text."""

from twinwires.codes import Code
from twinwires.errors import NoLine, NoText, NoWires
from twinwires.exact import MOST_WIRES_EXACT, Exact
from twinwires.likeness import parted, shorter
from twinwires.making import common, made
from twinwires.rows import MINUS, letters_of
from twinwires.runs import drawer_of, run_work
from twinwires.signs import Signs
from twinwires.tellings import parting, telling
from twinwires.texts import read_number, read_row, read_work, show_rows, show_whole, show_work
from twinwires.works import undone

SMALL_LETTERS = "abcdefghijklmnopqrstuvwxyz"
MOST_LETTERS = 8
MOST_MANY = 2

# Each answer is given by a def that gets the desk and the words behind the first one. It reads all of them and
# makes all that may be refused before it changes the desk. A NoText on the way is told by the desk as NoLine.


def answer_wires(desk, words):
    check_many(words, 1)
    desk.begin(read_number(words[0]))
    return "ok"


def answer_draws(desk, words):
    desk.drawer = drawer_of([read_number(word) for word in words])
    return "ok"


def answer_do(desk, words):
    # Behind `do` stands a blank, even where the work behind it has no signs.
    if words == []:
        raise NoLine("a work is told behind a blank")
    work = read_work(" ".join(words), desk.n)
    told = run_work(desk.by_rows, work, desk.drawer)
    if desk.by_amounts is not None:
        run_work(desk.by_amounts, work, drawer_of([value for value, sure in told if not sure]))
    if told == []:
        return "ok"
    return "; ".join([show_look(value, sure) for value, sure in told])


def show_look(value, sure):
    return str(value) + (" sure" if sure else " free")


def answer_telling(desk, words):
    check_many(words, 0)
    return show_rows(telling(desk.by_rows.rows(), desk.n), desk.n)


def answer_whole(desk, words):
    check_many(words, 0)
    if desk.by_amounts is None:
        raise NoWires("the exact machine has six wires at most")
    return show_whole(desk.by_amounts.whole(), desk.n)


def answer_keep(desk, words):
    check_many(words, 1)
    desk.tellings[read_name(words[0])] = telling(desk.by_rows.rows(), desk.n)
    return "ok"


def answer_same(desk, words):
    check_many(words, 1)
    row = parting(desk.by_rows.rows(), kept_by(desk.tellings, words[0]), desk.n)
    return "same" if row is None else "parted " + letters_of(row, desk.n)


def answer_made(desk, words):
    check_many(words, 0)
    return show_work(made(desk.by_rows.rows(), desk.n), desk.n)


def answer_common(desk, words):
    return str(common(desk.by_rows.rows(), [read_number(word) for word in words], desk.n))


def answer_work(desk, words):
    if words == []:
        raise NoLine("a work is kept by a name")
    desk.works[read_name(words[0])] = read_work(" ".join(words[1:]), desk.n)
    return "ok"


def answer_alike(desk, words):
    check_many(words, 2)
    told = parted(kept_by(desk.works, words[0]), kept_by(desk.works, words[1]), desk.n)
    if told is None:
        return "alike"
    return "\n".join(["parted", show_work(told[0], desk.n), letters_of(told[1], desk.n)])


def answer_shorter(desk, words):
    check_many(words, 1)
    return show_work(shorter(kept_by(desk.works, words[0]), desk.n), desk.n)


def answer_undone(desk, words):
    check_many(words, 1)
    return show_work(undone(kept_by(desk.works, words[0])), desk.n)


def answer_code(desk, words):
    rows = [read_row(word, desk.n) for word in words]
    desk.code = Code(desk.n, rows)
    return "ok"


def answer_signs(desk, words):
    check_many(words, 1)
    wrong = read_row(words[0], desk.n)
    if wrong[MINUS] == 1:
        raise NoLine("a wrong has no minus")
    return "".join([str(sign) for sign in code_of(desk).signs(wrong)])


def answer_mends(desk, words):
    check_many(words, 1)
    told = code_of(desk).parting_wrongs(read_many(words[0]))
    if told is None:
        return "mends"
    return " ".join(["parts"] + [letters_of(row, desk.n) for row in told])


def answer_guess(desk, words):
    code = code_of(desk)
    if code.rows() == []:
        check_many(words, 1)
        signs = []
    else:
        check_many(words, 2)
        signs = read_signs(words[1], len(code.rows()))
    return letters_of(code.guess(signs, read_many(words[0])), desk.n)


def check_many(words, many):
    if len(words) != many:
        raise NoLine("words are missing, or too many")


def read_name(text):
    if len(text) == 0 or len(text) > MOST_LETTERS or not all([sign in SMALL_LETTERS for sign in text]):
        raise NoLine("a name has one to eight small letters")
    return text


def kept_by(things, name):
    if name not in things:
        raise NoLine("nothing of the kind is kept by this name")
    return things[name]


def code_of(desk):
    if desk.code is None:
        raise NoLine("no code is kept")
    return desk.code


def read_many(text):
    many = read_number(text)
    if many > MOST_MANY:
        raise NoLine("a code is asked for wrongs of a weight of two at most")
    return many


def read_signs(text, many):
    if len(text) != many or not all([sign in "01" for sign in text]):
        raise NoLine("signs are written as figures 0 and 1, one for each row of the code")
    return [int(sign) for sign in text]


ANSWERS = {
    "wires": answer_wires, "draws": answer_draws, "do": answer_do, "telling": answer_telling, "whole": answer_whole,
    "keep": answer_keep, "same": answer_same, "made": answer_made, "common": answer_common, "work": answer_work,
    "alike": answer_alike, "shorter": answer_shorter, "undone": answer_undone, "code": answer_code,
    "signs": answer_signs, "mends": answer_mends, "guess": answer_guess,
}


class Desk:
    def __init__(self):
        self.begin(1)

    def begin(self, n):
        # What may be refused stands first.
        self.by_rows = Signs(n)
        self.by_amounts = Exact(n) if n <= MOST_WIRES_EXACT else None
        self.n = n
        self.drawer = None
        self.tellings = {}
        self.works = {}
        self.code = None

    def say(self, row):
        if not isinstance(row, str):
            raise NoLine("the desk is told texts")
        words = row.split(" ")
        if words[0] not in ANSWERS:
            raise NoLine("no row of the desk's begins with this word")
        try:
            return ANSWERS[words[0]](self, words[1:])
        except NoText:
            raise NoLine("a number, work or row is not written as told") from None
