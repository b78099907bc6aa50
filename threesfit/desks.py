"""Desks: a rule and a row under deeds that can be undone and done again."""

from threesfit.basics import is_below
from threesfit.dividing import rest
from threesfit.errors import BadKind, BadText, NoFold, NotAlike, NothingToRedo, NothingToUndo, TooLong
from threesfit.folding import folded, folded_row
from threesfit.likeness import are_alike
from threesfit.naming import renamed, renamed_row
from threesfit.orders import heap_of, order_of, turn_of_row
from threesfit.rules import DIGITS, is_rule, met, read_table, require_rule, table_text

MOST_ITEMS = 40


class Desk:
    """A rule and a row of its kinds, and what was done."""

    def __init__(self, rule):
        require_rule(rule)
        # All standings up to the last one that can be done again, and the position of the present one.
        self.standings = [(rule, ())]
        self.present = 0

    def rule(self):
        """The rule."""
        return self.standings[self.present][0]

    def row(self):
        """The row."""
        return self.standings[self.present][1]

    def order(self):
        """The order of the row."""
        return order_of(self.rule(), self.row())

    def heap(self):
        """The heap of the row."""
        return heap_of(self.rule(), self.row())

    def turn(self):
        """The turn of the row."""
        return turn_of_row(self.rule(), self.row())

    def ways(self):
        """The ascending tuple of the places at which a meeting changes the row."""
        rule, row = self.rule(), self.row()
        return tuple([place for place, (x, y) in enumerate(zip(row, row[1:])) if rule[x][y] != (x, y)])

    def text(self):
        """The text of the desk."""
        return "\n".join([table_text(self.rule()), " ".join(["row"] + [str(x) for x in self.row()])])

    def undoable(self):
        """How many deeds can be undone."""
        return self.present

    def redoable(self):
        """How many deeds can be done again."""
        return len(self.standings) - 1 - self.present

    def stand(self, rule, row):
        """Set the standing anew, by a deed."""
        self.standings = self.standings[:self.present + 1] + [(rule, row)]
        self.present += 1

    def require_kind(self, kind):
        """Raise BadKind unless the kind is one of the rule, and TooLong if the row has no room for it."""
        if not is_below(kind, len(self.rule())):
            raise BadKind(kind)
        if len(self.row()) >= MOST_ITEMS:
            raise TooLong()

    def put(self, kind):
        """Put a kind behind the row."""
        self.require_kind(kind)
        self.stand(self.rule(), self.row() + (kind,))

    def lead(self, kind):
        """Put a kind ahead of the row."""
        self.require_kind(kind)
        self.stand(self.rule(), (kind,) + self.row())

    def meet(self, place):
        """Let the items at a place and behind it meet."""
        self.stand(self.rule(), met(self.rule(), self.row(), place))

    def rearrange(self, row):
        """Replace the row by an alike one."""
        if not are_alike(self.rule(), self.row(), row):
            raise NotAlike()
        self.stand(self.rule(), row)

    def divide(self, row):
        """Replace the row by the first row among the rests of a row in it."""
        self.stand(self.rule(), rest(self.rule(), row, self.row()))

    def rename(self, names):
        """Rename the rule and the row."""
        self.stand(renamed(self.rule(), names), renamed_row(self.rule(), names, self.row()))

    def fold(self):
        """Fold the rule and the row."""
        rule = folded(self.rule())
        if rule == self.rule():
            raise NoFold()
        self.stand(rule, folded_row(self.rule(), self.row()))

    def undo(self):
        """Go back to the standing from ahead of the last deed that is not undone."""
        if self.undoable() == 0:
            raise NothingToUndo()
        self.present -= 1

    def redo(self):
        """Go to the standing from ahead of the last undo that has not been done again."""
        if self.redoable() == 0:
            raise NothingToRedo()
        self.present += 1

    def copied(self):
        """A new desk with the same standing, and with nothing to undo or to redo."""
        return _desk_with(self.rule(), self.row())

    def is_same(self, thing):
        """Whether any value is a desk with an equal standing."""
        return isinstance(thing, Desk) and (thing.rule(), thing.row()) == (self.rule(), self.row())


def _desk_with(rule, row):
    """A new desk with a standing, and with nothing to undo."""
    desk = Desk(rule)
    desk.standings = [(rule, row)]
    return desk


def _is_row_line(line, n):
    """Whether a string is the line of a row of not too many of n kinds."""
    words = line.split(" ")
    if words[0] != "row" or len(words) > MOST_ITEMS + 1:
        return False
    return all([len(word) == 1 and word in DIGITS[:n] for word in words[1:]])


def read_desk(text):
    """The new desk with the standing of a text."""
    if not isinstance(text, str):
        raise BadText(0)
    lines = text.split("\n")
    n = len(lines[0].split(" "))
    table = read_table("\n".join(lines[:n]))
    if not is_rule(table):
        raise BadText(n)
    if len(lines) == n or not _is_row_line(lines[n], n):
        raise BadText(n + 1)
    if len(lines) > n + 1:
        raise BadText(n + 2)
    return _desk_with(table, tuple([int(word) for word in lines[n].split(" ")[1:]]))
