"""The interface's names and arguments, and point 2 over the whole program."""

import copy
import importlib
import inspect
import unittest

from helpers import Drawn

FUNCTIONS = {
    "bits": ["ones(number)", "places(number)"],
    "rows": ["checked_row(thing, n)", "weight_of(row)", "goes_beside(one, other)", "times(one, other)",
             "letters_of(row, n)", "row_of(text)"],
    "deeds": ["deed_of(words, n)"],
    "works": ["row_behind(work, row, n)", "undone(work)"],
    "exact": ["acted_on(whole, row)", "whole_weight(whole)", "same_whole(one, other)", "halves_by(whole, row)"],
    "runs": ["drawer_of(numbers)", "run_work(machine, work, draw=None)"],
    "tellings": ["telling(rows, n)", "made_of(rows, row)", "same_rows(one, other, n)", "parting(one, other, n)"],
    "likeness": ["images(work, n)", "alike(one, other, n)", "parted(one, other, n)", "shorter(work, n)"],
    "making": ["made(rows, n)", "common(rows, wires, n)"],
    "codes": ["deeds_of(row)"],
    "texts": ["show_rows(rows, n)", "show_work(work, n)", "show_whole(whole, n)", "read_work(text, n)"],
}
DEED = ["words(self)", "wires(self)", "undoing(self)", "on_row(self, row)", "on_whole(self, whole)"]
CLASSES = {
    ("deeds", "Over"): DEED, ("deeds", "Quarter"): DEED, ("deeds", "Back"): DEED, ("deeds", "Both"): DEED,
    ("deeds", "Where"): DEED, ("deeds", "Swap"): DEED, ("deeds", "Deed"): [],
    ("exact", "Exact"): ["__init__(self, n)", "wires(self)", "whole(self)", "do(self, words)",
                         "look(self, row, draw=None)"],
    ("signs", "Signs"): ["__init__(self, n)", "wires(self)", "rows(self)", "do(self, words)",
                         "look(self, row, draw=None)"],
    ("codes", "Code"): ["__init__(self, n, rows)", "wires(self)", "rows(self)", "signs(self, wrong)",
                        "harmless(self, wrong)", "parting_wrongs(self, many)", "guess(self, signs, many)"],
    ("desk", "Desk"): ["__init__(self)", "say(self, row)"],
}

PAIR = [("both", 0), ("where", 0, 1)]
ROWS = [(0, 3, 0), (0, 0, 3)]
OTHERS = [(1, 3, 3), (0, 3, 0)]
WHOLE = {0: (1, 0), 3: (0, -1)}

# What is handed in to each of the functions that get or tell lists and dicts.
CALLS = [
    ("bits", "places", [5]), ("works", "row_behind", [PAIR, (0, 0, 1), 2]), ("works", "undone", [PAIR]),
    ("exact", "acted_on", [WHOLE, (0, 1, 2)]), ("exact", "whole_weight", [WHOLE]),
    ("exact", "same_whole", [WHOLE, {0: (0, 1), 3: (1, 0)}]), ("exact", "halves_by", [WHOLE, (0, 3, 0)]),
    ("tellings", "telling", [OTHERS, 2]), ("tellings", "made_of", [ROWS, (0, 3, 3)]),
    ("tellings", "same_rows", [ROWS, OTHERS, 2]), ("tellings", "parting", [ROWS, [(0, 0, 1), (0, 0, 2)], 2]),
    ("likeness", "images", [PAIR, 2]), ("likeness", "alike", [PAIR, [("over", 0)], 2]),
    ("likeness", "parted", [PAIR, [("over", 0)], 2]), ("likeness", "shorter", [PAIR + [("where", 0, 1)], 2]),
    ("making", "made", [OTHERS, 2]), ("making", "common", [ROWS, [1], 2]), ("codes", "deeds_of", [(0, 3, 1)]),
    ("texts", "show_rows", [ROWS, 2]), ("texts", "show_work", [PAIR + [("look", 3, 0)], 2]),
    ("texts", "show_whole", [WHOLE, 2]), ("texts", "read_work", ["both 0; look zz", 2]),
]


def module(name):
    return importlib.import_module("twinwires." + name)


def spoil(told):
    """Changes each list and dict within what was told."""
    if isinstance(told, tuple):
        for part in told:
            spoil(part)
    elif isinstance(told, list):
        told.append("spoilt")
        told.reverse()
    elif isinstance(told, dict):
        told.clear()
        told["spoilt"] = True


class Interface(unittest.TestCase):
    def test_functions(self):
        for name, signatures in FUNCTIONS.items():
            for signature in signatures:
                function = getattr(module(name), signature.split("(")[0])
                self.assertEqual(function.__name__ + str(inspect.signature(function)), signature)

    def test_classes(self):
        for (name, kind), signatures in CLASSES.items():
            told = getattr(module(name), kind)
            self.assertTrue(inspect.isclass(told))
            for signature in signatures:
                method = getattr(told, signature.split("(")[0])
                self.assertEqual(method.__name__ + str(inspect.signature(method)), signature)


class Own(unittest.TestCase):
    def test_what_is_handed_in_stays_and_what_is_told_is_the_askers_own(self):
        for name, called, args in CALLS:
            with self.subTest(called):
                function = getattr(module(name), called)
                handed = copy.deepcopy(args)
                first = function(*handed)
                self.assertEqual(handed, args)
                expected = copy.deepcopy(first)
                spoil(first)
                self.assertEqual(handed, args)
                second = function(*handed)
                self.assertEqual(second, expected)
                for thing in handed:
                    spoil(thing)
                self.assertEqual(second, expected)

    def test_machines(self):
        for kind, asked in ((module("exact").Exact, "whole"), (module("signs").Signs, "rows")):
            machine = kind(2)
            work = PAIR + [("look", 0, 1), ("look", 1, 0)]
            handed = list(work)
            told = module("runs").run_work(machine, handed, Drawn(1))
            self.assertEqual(handed, work)
            before = getattr(machine, asked)()
            expected = copy.deepcopy(before)
            spoil(handed)
            spoil(told)
            spoil(before)
            self.assertEqual(getattr(machine, asked)(), expected)

    def test_codes(self):
        rows = list(ROWS)
        code = module("codes").Code(2, rows)
        for asked, args in (("rows", []), ("signs", [(0, 1, 0)]), ("parting_wrongs", [1]), ("guess", [[1, 0], 1])):
            handed = copy.deepcopy(args)
            told = getattr(code, asked)(*handed)
            expected = copy.deepcopy(told)
            self.assertEqual(handed, args)
            spoil(told)
            spoil(rows)
            for thing in handed:
                spoil(thing)
            self.assertEqual(getattr(code, asked)(*args), expected)


if __name__ == "__main__":
    unittest.main()
