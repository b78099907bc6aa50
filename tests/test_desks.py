"""Desks: deeds, what they refuse, undo and redo, copies, and desks as any value."""

from itertools import permutations, product

from tests.samples import (BIG_RULES, BOTH, CALM, CYCLE, DEEP, GUARD, ONE, RULES, SMALL_RULES, STRANGE, STUCK, STUCK_TOO, SWAP,
                           WRONG_RULES, Case, beside, class_of, met_at, plain_motion, plain_renamed, rows_of, shifted, spoiled,
                           wrong_kinds, wrong_places, wrong_rows)
from threesfit.desks import Desk
from threesfit.dividing import divides, rest
from threesfit.errors import (BadKind, BadNames, BadPlace, BadRow, BadRule, NoFold, NoRest, NotAlike, NothingToRedo,
                              NothingToUndo, TooLong)
from threesfit.folding import folded, folded_row, level
from threesfit.orders import order_of
from threesfit.rules import table_text


def standing(desk):
    return desk.rule(), desk.row()


def desk_with(rule, row):
    """A desk with a row, to which nothing else was done."""
    desk = Desk(rule)
    for x in row:
        desk.put(x)
    return desk


def state(desk):
    """All that can be read of a desk."""
    return (desk.rule(), desk.row(), desk.order(), desk.heap(), desk.turn(), desk.ways(), desk.text(), desk.undoable(), desk.redoable())


class DeskCase(Case):
    def declines(self, desk, error, thing, deed):
        """Check that a call of a deed raises an error with a value, and that nothing changes."""
        before = state(desk)
        self.refuses(error, thing, deed, thing)
        self.is_just(state(desk), before)

    def declines_plainly(self, desk, error, deed, *values):
        before = state(desk)
        self.refuses_plainly(error, deed, *values)
        self.is_just(state(desk), before)


class ReadingTests(DeskCase):
    def test_new_desks(self):
        for rule in RULES:
            n = len(rule)
            desk = Desk(rule)
            wanted = (rule, (), (), (0,) * n, tuple(range(n)), (), table_text(rule) + "\nrow", 0, 0)
            self.is_just(state(desk), wanted)
            self.is_just(state(Desk(rule=rule)), wanted)

    def test_readings(self):
        for rule in RULES:
            n = len(rule)
            for row in [(0,), (n - 1, 0), (0, 0, n - 1, 0), tuple(k * k % n for k in range(40))]:
                desk = desk_with(rule, row)
                heap, turn = plain_motion(rule, row)
                ways = tuple(k for k in range(len(row) - 1) if met_at(rule, row, k) != row)
                text = table_text(rule) + "\nrow" + "".join(f" {x}" for x in row)
                self.is_just(state(desk), (rule, row, order_of(rule, row), heap, turn, ways, text, len(row), 0))

    def test_wrong_rules(self):
        for rule in WRONG_RULES:
            self.refuses(BadRule, rule, Desk, rule)
            self.refuses(BadRule, rule, Desk, rule=rule)
        desk = Desk(CALM)
        for rule in (desk, (desk,), ((desk, desk), (desk, desk)), [desk]):
            with self.assertRaises(BadRule) as caught:
                Desk(rule)
            self.assertIs(caught.exception.thing, rule)


class DeedTests(DeskCase):
    def test_put_and_lead(self):
        for rule in RULES:
            desk, row = Desk(rule), ()
            for k in range(40):
                x = k * k % len(rule)
                self.assertIsNone(desk.put(x) if k % 3 else desk.lead(kind=x))
                row = row + (x,) if k % 3 else (x,) + row
                self.is_just((standing(desk), desk.undoable()), ((rule, row), k + 1))
            for deed in (desk.put, desk.lead):
                for x in range(len(rule)):
                    self.declines_plainly(desk, TooLong, deed, x)
                for x in wrong_kinds(len(rule)):
                    self.declines(desk, BadKind, x, deed)
            desk.divide(row[:1])
            desk.put(kind=0)
            self.assertEqual(len(desk.row()), 40)
            self.declines_plainly(desk, TooLong, desk.lead, 0)

    def test_wrong_kinds(self):
        for rule in [ONE, GUARD, STUCK, shifted(8)]:
            for row in [(), (0,), (0,) * 39]:
                desk = desk_with(rule, row)
                for x in wrong_kinds(len(rule)):
                    self.declines(desk, BadKind, x, desk.put)
                    self.declines(desk, BadKind, x, desk.lead)

    def test_meet(self):
        for rule in SMALL_RULES:
            for row in rows_of(len(rule), 3):
                for place in range(len(row) - 1):
                    desk = desk_with(rule, row)
                    self.assertIsNone(desk.meet(place=place) if place else desk.meet(place))
                    self.is_just((standing(desk), desk.undoable()), ((rule, met_at(rule, row, place)), len(row) + 1))
                desk = desk_with(rule, row)
                for place in wrong_places(max(len(row) - 1, 0)) + [-2, len(row)]:
                    self.declines(desk, BadPlace, place, desk.meet)
        desk = desk_with(GUARD, (2, 0) * 20)
        for place in (0, 38, 20):
            desk.meet(place)
        self.declines(desk, BadPlace, 39, desk.meet)

    def test_rearrange(self):
        for rule in [ONE, BOTH, GUARD, SWAP, CYCLE, STUCK]:
            for row in list(rows_of(len(rule), 3))[::3]:
                alike = class_of(rule, row)
                for other in rows_of(len(rule), 3):
                    desk = desk_with(rule, row)
                    if other in alike:
                        self.assertIsNone(desk.rearrange(other))
                        self.is_just((standing(desk), desk.undoable()), ((rule, other), len(row) + 1))
                    else:
                        self.declines_plainly(desk, NotAlike, desk.rearrange, other)
                for other in wrong_rows(len(rule)):
                    self.declines(desk, BadRow, other, desk.rearrange)
        desk = desk_with(GUARD, (2, 0, 0))
        desk.rearrange(row=(1, 1, 2))
        self.is_just(desk.row(), (1, 1, 2))

    def test_divide(self):
        for rule in [ONE, BOTH, GUARD, SWAP, CYCLE, STUCK]:
            for row in list(rows_of(len(rule), 3))[::2]:
                for other in list(rows_of(len(rule), 2)) + [row, row + (0,)]:
                    desk = desk_with(rule, row)
                    if divides(rule, other, row):
                        self.assertIsNone(desk.divide(other))
                        self.is_just((standing(desk), desk.undoable()), ((rule, rest(rule, other, row)), len(row) + 1))
                    else:
                        self.declines_plainly(desk, NoRest, desk.divide, other)
                for other in wrong_rows(len(rule)):
                    self.declines(desk, BadRow, other, desk.divide)
        desk = desk_with(GUARD, (2, 0, 0))
        desk.divide(row=(1,))
        self.is_just(desk.row(), (1, 2))

    def test_rename(self):
        for rule in SMALL_RULES + BIG_RULES:
            n = len(rule)
            row = tuple((k * k + 1) % n for k in range(7))
            for p in list(permutations(range(n)))[::1 if n < 5 else 611]:
                desk = desk_with(rule, row)
                self.assertIsNone(desk.rename(p))
                self.is_just((standing(desk), desk.undoable()), ((plain_renamed(rule, p), tuple(p[x] for x in row)), 8))
            every = tuple(range(n))
            wrong = [thing for thing in spoiled(every) if type(thing) is not tuple or sorted(map(repr, thing)) != sorted(map(repr, every))]
            for names in STRANGE + wrong + [(), every[1:], every + (n,), (n,) * n, None, list(every), (every,), DEEP]:
                self.declines(desk, BadNames, names, desk.rename)
        desk.rename(names=tuple(range(8)))

    def test_fold(self):
        for rule in SMALL_RULES + BIG_RULES:
            row = tuple((k * k + 1) % len(rule) for k in range(7))
            desk = desk_with(rule, row)
            while folded(rule) != rule:
                self.assertIsNone(desk.fold())
                rule, row = folded(rule), folded_row(rule, row)
                self.is_just(standing(desk), (rule, row))
            self.declines_plainly(desk, NoFold, desk.fold)
            self.is_just(len(rule) == 1, level(desk.rule()) == 0)

    def test_deeds_that_change_nothing(self):
        desk = desk_with(GUARD, (0, 0))
        for deed, value in [(desk.meet, 0), (desk.rearrange, (0, 0)), (desk.divide, ()), (desk.rename, (0, 1, 2)), (desk.rename, (0, 1, 2))]:
            deed(value)
        self.is_just((standing(desk), desk.undoable()), ((GUARD, (0, 0)), 7))
        for k in range(5):
            desk.undo()
            self.is_just((standing(desk), desk.undoable(), desk.redoable()), ((GUARD, (0, 0)), 6 - k, k + 1))
        desk.undo()
        self.is_just(standing(desk), (GUARD, (0,)))

    def test_values_that_are_desks(self):
        desk = desk_with(GUARD, (0, 2))
        other = Desk(GUARD)
        for error, deed in [(BadKind, desk.put), (BadKind, desk.lead), (BadPlace, desk.meet), (BadRow, desk.rearrange), (BadRow, desk.divide),
                            (BadNames, desk.rename)]:
            for thing in (other, desk, (other,), (0, desk), [desk]):
                with self.assertRaises(error) as caught:
                    deed(thing)
                self.assertIs(caught.exception.thing, thing)
        self.is_just(standing(desk), (GUARD, (0, 2)))


class UndoTests(DeskCase):
    def test_nothing_to_undo(self):
        desk = Desk(GUARD)
        self.declines_plainly(desk, NothingToUndo, desk.undo)
        self.declines_plainly(desk, NothingToRedo, desk.redo)
        desk.put(0)
        self.declines_plainly(desk, NothingToRedo, desk.redo)
        self.assertIsNone(desk.undo())
        self.declines_plainly(desk, NothingToUndo, desk.undo)
        self.assertIsNone(desk.redo())
        self.declines_plainly(desk, NothingToRedo, desk.redo)

    def tried(self, desk, number):
        """One of many calls; whether it was a deed that was done."""
        rule, row = standing(desk)
        n = len(rule)
        calls = [(desk.put, number % n), (desk.lead, number // 3 % n), (desk.meet, number % 5), (desk.rearrange, row[::-1]),
                 (desk.divide, row[:number % 3]), (desk.divide, (n - 1,)), (desk.rename, tuple((x + number) % n for x in range(n))),
                 (desk.put, n), (desk.put, number * 7 % n), (desk.lead, 0), (desk.rename, ()), (desk.meet, -1), (desk.put, n - 1)]
        deed, value = calls[number % len(calls)]
        try:
            deed(value)
        except (BadKind, BadPlace, NotAlike, NoRest, TooLong, BadNames):
            return False
        return True

    def test_in_any_order(self):
        for rule, step in product([GUARD, STUCK_TOO, SWAP, beside(CYCLE, GUARD)], (1, 7, 19)):
            desk, number = Desk(rule), step
            standings, at = [standing(desk)], 0
            for _ in range(150):
                number = (number * 1103515245 + 12345) % 2 ** 31
                choice = number >> 16
                if choice % 5 == 0 and at:
                    desk.undo()
                    at -= 1
                elif choice % 5 == 1 and at < len(standings) - 1:
                    desk.redo()
                    at += 1
                elif choice % 97 == 2 and folded(desk.rule()) != desk.rule():
                    desk.fold()
                    standings, at = standings[:at + 1] + [standing(desk)], at + 1
                elif self.tried(desk, choice // 5):
                    standings, at = standings[:at + 1] + [standing(desk)], at + 1
                self.is_just((standing(desk), desk.undoable(), desk.redoable()), (standings[at], at, len(standings) - 1 - at))
            self.check_all(desk, standings, at)

    def check_all(self, desk, standings, at):
        """Undo and redo all there is, there and back."""
        while desk.redoable():
            desk.redo()
            at += 1
            self.is_just(standing(desk), standings[at])
        while desk.undoable():
            desk.undo()
            at -= 1
            self.is_just(standing(desk), standings[at])
        self.is_just((at, desk.redoable()), (0, len(standings) - 1))

    def test_refused_calls_in_between(self):
        desk = desk_with(GUARD, (2, 0, 2))
        desk.undo()
        for deed, value in [(desk.put, 3), (desk.meet, 1), (desk.rearrange, (2, 0, 2)), (desk.divide, (0, 0)), (desk.rename, (0, 0, 0)),
                            (desk.rearrange, [2, 0]), (desk.lead, None)]:
            self.assertRaises(Exception, deed, value)
            self.is_just((desk.row(), desk.undoable(), desk.redoable()), ((2, 0), 2, 1))
        state(desk)
        desk.redo()
        self.is_just(desk.row(), (2, 0, 2))

    def test_a_deed_behind_an_undo(self):
        desk = desk_with(GUARD, (2, 0, 2))
        desk.undo()
        desk.undo()
        desk.lead(1)
        self.declines_plainly(desk, NothingToRedo, desk.redo)
        self.is_just((desk.row(), desk.undoable(), desk.redoable()), ((1, 2), 2, 0))
        desk.undo()
        self.is_just((desk.row(), desk.redoable()), ((2,), 1))
        desk.redo()
        desk.fold()
        desk.undo()
        self.is_just(standing(desk), (GUARD, (1, 2)))
        desk.redo()
        self.is_just(standing(desk), (CALM, (0, 1)))

    def test_sixty_deeds(self):
        desk = Desk(GUARD)
        for k in range(30):
            desk.put(k % 3)
        for k in range(35):
            desk.meet(k % 29)
        self.is_just((desk.undoable(), len(desk.row())), (65, 30))
        for _ in range(65):
            desk.undo()
        self.is_just((desk.row(), desk.redoable()), ((), 65))


class CopyTests(DeskCase):
    def test_copies(self):
        for rule in SMALL_RULES:
            desk = desk_with(rule, (0, len(rule) - 1, 0))
            desk.undo()
            other = desk.copied()
            self.assertIs(type(other), Desk)
            self.is_just((standing(other), other.undoable(), other.redoable()), ((rule, (0, len(rule) - 1)), 0, 0))
            self.declines_plainly(other, NothingToUndo, other.undo)
            self.is_just((desk.undoable(), desk.redoable(), desk.is_same(other)), (2, 1, True))
            other.put(0)
            self.is_just((desk.row(), other.row(), desk.is_same(other)), ((0, len(rule) - 1), (0, len(rule) - 1, 0), False))
            desk.redo()
            self.is_just((desk.is_same(other), other.is_same(desk)), (True, True))
            desk.undo()
            desk.undo()
            self.is_just((other.row(), other.undoable()), ((0, len(rule) - 1, 0), 1))

    def test_same_desks(self):
        desks = [desk_with(rule, row) for rule in [ONE, CALM, BOTH, GUARD] for row in [(), (0,), (0, 0)]]
        for one, other in product(desks, repeat=2):
            self.is_just(one.is_same(other), one is other)
        self.is_just(desk_with(GUARD, (0, 2)).is_same(desk_with(GUARD, (2, 1))), False)
        folded_down = desk_with(GUARD, (0, 2))
        folded_down.fold()
        self.is_just(folded_down.is_same(thing=desk_with(CALM, (0, 1))), True)

    def test_any_value(self):
        desk = desk_with(GUARD, (0, 2))
        for thing in STRANGE + WRONG_RULES + [GUARD, (0, 2), (GUARD, (0, 2)), [desk], (desk,), {0: desk}, desk.text(), Desk]:
            self.is_just(desk.is_same(thing), False)
        self.is_just(desk.is_same(desk), True)


class TwinTests(DeskCase):
    def test_renamed_twins(self):
        """A desk beside its renamed twin: all that is done to both keeps them alike."""
        for rule, p in [(GUARD, (1, 2, 0)), (STUCK_TOO, (3, 1, 0, 2)), (beside(BOTH, CYCLE), (4, 2, 0, 1, 3))]:
            desk, twin = Desk(rule), Desk(plain_renamed(rule, p))
            for k in range(30):
                x = k * k % len(rule)
                (desk.lead if k % 4 == 1 else desk.put)(x)
                (twin.lead if k % 4 == 1 else twin.put)(p[x])
                if k % 3 == 2:
                    desk.meet(k // 2)
                    twin.meet(k // 2)
                self.is_just(twin.row(), tuple(p[y] for y in desk.row()))
                self.is_just(twin.order(), tuple(p[y] for y in desk.order()))
                self.is_just([twin.heap()[p[y]] for y in range(len(rule))], list(desk.heap()))
                self.is_just(twin.ways(), desk.ways())
            desk.rename(p)
            self.is_just(desk.is_same(twin), True)

    def test_mirrored_twins(self):
        for rule in [GUARD, SWAP, CYCLE, STUCK, STUCK_TOO]:
            seen = tuple(tuple(rule[b][a][::-1] for b in range(len(rule))) for a in range(len(rule)))
            desk, twin = Desk(rule), Desk(seen)
            for k in range(20):
                x = k * k % len(rule)
                (desk.lead if k % 4 == 1 else desk.put)(x)
                (twin.put if k % 4 == 1 else twin.lead)(x)
                if k > 2:
                    desk.meet(k // 2)
                    twin.meet(k - 1 - k // 2)
                self.is_just(twin.row(), desk.row()[::-1])
                self.is_just(twin.ways(), tuple(sorted(k - 1 - place for place in desk.ways())))
