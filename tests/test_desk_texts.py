"""Texts of desks."""

from itertools import product

from tests.samples import (BIG_RULES, BOTH, CALM, DEEP, GUARD, NO_RULES, ONE, RULES, SMALL_RULES, STUCK, Case, shifted)
from threesfit.desks import Desk, read_desk
from threesfit.errors import BadText, NothingToUndo
from threesfit.rules import is_rule, table_text

SIGNS = ["", " ", "  ", "\n", "0", "1", "2", "7", "8", "9", "-1", "00", "01", "x", "r", "row", "row 0", "~", "+0", "-", "_", "\n\n"]


def plain_text(rule, row):
    lines = [" ".join(f"{u}{v}" for u, v in line) for line in rule]
    return "\n".join(lines + [" ".join(["row", *map(str, row)])])


def plain_fault(text):
    """The number of the line that BadText tells, None for a text of a desk: by all words of the document."""
    lines = [line.split(" ") for line in text.split("\n")]
    n = len(lines[0])
    kinds = [str(x) for x in range(n)]
    for at, words in enumerate(lines[:n], start=1):
        if n > 8 or len(words) != n or any(len(word) != 2 or word[0] not in kinds or word[1] not in kinds for word in words):
            return at
    if len(lines) < n:
        return len(lines) + 1
    table = tuple(tuple((int(word[0]), int(word[1])) for word in words) for words in lines[:n])
    if not is_rule(table):
        return n
    if len(lines) == n or lines[n][0] != "row" or len(lines[n]) > 41 or any(word not in kinds for word in lines[n][1:]):
        return n + 1
    return n + 2 if len(lines) > n + 1 else None


def changed(text):
    """Texts that come from one by something else at one place."""
    for k in range(len(text) + 1):
        for sign in SIGNS:
            yield text[:k] + sign + text[k:]
            yield text[:k] + sign + text[k + 1:]
    lines = text.split("\n")
    for k, line in enumerate(lines):
        for new in (lines[:k] + lines[k + 1:], lines[:k] + [line] + lines[k:], lines[:k] + [line + " " + line] + lines[k + 1:], lines[k:],
                    lines[:k], lines[:k] + lines[k:][::-1], lines[:k] + [" " + line] + lines[k + 1:], lines[:k] + [line + " "] + lines[k + 1:]):
            yield "\n".join(new)


class TextTests(Case):
    def check(self, text):
        wanted = plain_fault(text)
        if wanted is None:
            self.is_just(read_desk(text).text(), text)
        else:
            with self.assertRaises(BadText) as caught:
                read_desk(text)
            self.is_just(vars(caught.exception), {"at": wanted})

    def test_there_and_back(self):
        for rule in RULES:
            n = len(rule)
            for row in [(), (0,), (n - 1, 0), tuple(k * k % n for k in range(40)), (n - 1,) * 40]:
                desk = Desk(rule)
                for x in row:
                    desk.put(x)
                self.is_just(desk.text(), plain_text(rule, row))
                other = read_desk(desk.text())
                self.assertIs(type(other), Desk)
                self.is_just((other.rule(), other.row(), other.undoable(), other.redoable()), (rule, row, 0, 0))
                self.is_just(other.is_same(desk), True)
                self.refuses_plainly(NothingToUndo, other.undo)
                other.meet(0) if len(row) > 1 else other.lead(0)
                self.is_just(other.undoable(), 1)
        self.is_just(read_desk(text="00\nrow 0").row(), (0,))

    def test_something_otherwise_at_any_place(self):
        for rule, row in [(ONE, ()), (ONE, (0, 0)), (CALM, (0, 1, 1)), (BOTH, (1, 0)), (GUARD, (2, 0, 1)), (STUCK, (3, 2))]:
            for text in changed(plain_text(rule, row)):
                self.check(text)

    def test_greater_rules(self):
        for rule in BIG_RULES:
            text = plain_text(rule, (0, len(rule) - 1))
            for other in list(changed(text))[::17]:
                self.check(other)

    def test_tables_that_are_no_rules(self):
        for table in NO_RULES:
            for ending in ("\nrow", "\nrow 0 1", "", "\n", "\nrow 9", "\nrow\nrow"):
                with self.assertRaises(BadText) as caught:
                    read_desk(table_text(table) + ending)
                self.assertEqual(caught.exception.at, len(table))

    def test_long_rows(self):
        for rule in SMALL_RULES:
            for many in (39, 40, 41, 42, 100):
                text = plain_text(rule, (len(rule) - 1,) * many)
                self.is_just(plain_fault(text), None if many < 41 else len(rule) + 1)
                self.check(text)

    def test_missing_lines(self):
        for rule in RULES:
            lines = plain_text(rule, (0,)).split("\n")
            for many in range(1, len(lines)):
                with self.assertRaises(BadText) as caught:
                    read_desk("\n".join(lines[:many]))
                self.assertEqual(caught.exception.at, many + 1)
            for more in ("", "row", "row 0", lines[0]):
                with self.assertRaises(BadText) as caught:
                    read_desk("\n".join(lines + [more, more]))
                self.assertEqual(caught.exception.at, len(lines) + 1)

    def test_no_strings(self):
        for text in [None, True, 0, 1, (), ("00\nrow",), ["00\nrow"], {}, {"00\nrow": 0}, DEEP, Desk(ONE), [Desk(ONE)], GUARD]:
            with self.assertRaises(BadText) as caught:
                read_desk(text)
            self.is_just(caught.exception.at, 0)

    def test_by_hand(self):
        for text, wanted in [("", 1), ("row", 1), ("00", 2), ("00\n", 2), ("00\nrow 1", 2), ("00\nrow ", 2), ("00\nrow  0", 2), ("00\nrow 0 ", 2),
                             ("00\n row", 2), ("00\nrow0", 2), ("00\nrow 0\n", 3), ("00\nrow 00", 2), ("00\nROW", 2), ("00 10\nrow", 2),
                             ("00 10\n01 11", 3), ("00 10\n00 10\nrow", 2), ("00 10\n01 12\nrow", 2), ("0\nrow", 1), ("01\nrow", 1),
                             ("00\n\nrow", 2), ("\n00\nrow", 1), ("00\nrow\t0", 2), ("00\nrow -0", 2), ("00\nrow +0", 2)]:
            self.is_just(plain_fault(text), wanted)
            self.check(text)

    def test_any_short_text(self):
        for signs in product(["0", "1", " ", "\n", "r"], repeat=4):
            self.check("".join(signs))
            self.check("00\n" + "".join(signs))
            self.check("00\nrow" + "".join(signs))
        self.check(" ".join(["00"] * 9) + "\nrow")
        self.check("\n".join([" ".join(["00"] * 9)] * 9) + "\nrow")
        self.check(plain_text(shifted(8), (7, 0)))
