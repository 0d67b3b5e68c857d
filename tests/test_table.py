"""The Table: what it tells, what it refuses, and taking back."""

import inspect
import random
import unittest
from itertools import product

from stonerow.checking import closes, is_fewest, is_laying
from stonerow.errors import Full, NoChain, NoDeed, NoFit, NoSide, NoStone
from stonerow.notes import laying_text, read, written
from stonerow.table import Table
from tests.samples import GOOD, KINDS, WRONG, assert_laying, spoil

# What is no stone: the single stones of the wrong lists, and things of every kind that are none either.
NO_STONES = [
    *(thing[0] for thing in WRONG.values() if isinstance(thing, list) and len(thing) == 1),
    *(thing for name, thing in KINDS.items() if name != "a tuple"),
    [(1, 2)],
    ((1, 2), (2, 3)),
]

NO_NUMBERS = [-1, -2, 2, 3, 60, 10 ** 30, -10 ** 30, True, False, None, "0", "", "left", (), (0,), [], [0], {}, b"0"]

NO_SIDES = [None, 0, 1, True, False, "Left", "RIGHT", "", "l", "lef", "left ", " right", "leftright", b"left",
            [], ["left"], ("left",), ("left", "right"), {"left": 1}, {"left"}]

DRAWN = [stone for stone in product(range(4), repeat=2)]


class Model:
    """The table as the document tells of it; each deed keeps all that was before."""

    def __init__(self):
        self.rows = []
        self.stones = []
        self.before = []

    def _keep(self):
        self.before.append(([list(lain) for lain in self.rows], list(self.stones)))

    def way(self, number, side, stone):
        """The turn in which a stone fits, or None."""
        first, last = self.ends(number)
        if side == "right":
            return 0 if stone[0] == last else 1 if stone[1] == last else None
        return 0 if stone[1] == first else 1 if stone[0] == first else None

    def begin(self, stone):
        self._keep()
        self.rows.append([(len(self.stones), 0)])
        self.stones.append(stone)
        return len(self.rows) - 1

    def put(self, number, side, stone):
        step = (len(self.stones), self.way(number, side, stone))
        self._keep()
        self.rows[number] = [step] + self.rows[number] if side == "left" else self.rows[number] + [step]
        self.stones.append(stone)

    def back(self):
        last = self.stones[-1]
        self.rows, self.stones = self.before.pop()
        return last

    def chain(self, number):
        return [self.stones[place][::-1] if turned else self.stones[place] for place, turned in self.rows[number]]

    def ends(self, number):
        return (self.chain(number)[0][0], self.chain(number)[-1][1])

    def fits(self, stone):
        if len(self.stones) == 60:
            return []
        return [(number, side) for number in range(len(self.rows)) for side in ("left", "right")
                if self.way(number, side, stone) is not None]


def told_by(table):
    """All that a table tells."""
    numbers = range(table.chains())
    return (table.chains(), table.stones(), table.laying(), [table.chain(number) for number in numbers],
            [table.open_ends(number) for number in numbers], [table.fits(stone) for stone in DRAWN])


def laid_table(*deeds):
    """A table with stones begun, each a tuple, or put, each (number, side, stone)."""
    table = Table()
    for deed in deeds:
        if len(deed) == 2:
            table.begin(deed)
        else:
            table.put(*deed)
    return table


def full_table(stone=(1, 2)):
    table = Table()
    for _ in range(60):
        table.begin(stone)
    return table


class AtFirst(unittest.TestCase):
    def test_it_has_no_stones(self):
        table = Table()
        self.assertEqual(told_by(table), (0, [], [], [], [], [[] for _ in DRAWN]))
        self.assertIs(is_laying(table.stones(), table.laying()), True)

    def test_tables_share_nothing(self):
        one, other = Table(), Table()
        one.begin((1, 2))
        self.assertEqual(other.chains(), 0)
        self.assertEqual(other.stones(), [])
        self.assertEqual(Table().laying(), [])


class Begin(unittest.TestCase):
    def test_it_tells_how_many_chains_there_were(self):
        table = Table()
        for number in range(60):
            self.assertIs(type(table.chains()), int)
            self.assertEqual(table.chains(), number)
            told = table.begin((number, 999999))
            self.assertIs(type(told), int)
            self.assertEqual(told, number)
        self.assertEqual(table.chains(), 60)

    def test_it_lays_the_stone_as_it_is(self):
        table = laid_table((1, 2), (2, 1), (2, 2))
        self.assertEqual([table.chain(number) for number in range(3)], [[(1, 2)], [(2, 1)], [(2, 2)]])
        self.assertEqual(table.laying(), [[(0, 0)], [(1, 0)], [(2, 0)]])

    def test_also_where_the_stone_would_fit_a_chain(self):
        table = laid_table((1, 2))
        self.assertEqual(table.begin((2, 3)), 1)
        self.assertEqual(table.chain(0), [(1, 2)])

    def test_behind_a_put_and_a_back(self):
        table = laid_table((1, 2), (0, "right", (2, 3)))
        self.assertEqual(table.begin((7, 7)), 1)
        table.back()
        self.assertEqual(table.begin((8, 8)), 1)


class Put(unittest.TestCase):
    def test_it_gives_none(self):
        table = laid_table((1, 2))
        self.assertIsNone(table.put(0, "left", (0, 1)))
        self.assertIsNone(table.put(0, "right", (2, 3)))

    def test_right_as_it_is_and_turned(self):
        table = laid_table((1, 2), (0, "right", (2, 3)), (0, "right", (4, 3)))
        self.assertEqual(table.chain(0), [(1, 2), (2, 3), (3, 4)])
        self.assertEqual(table.laying(), [[(0, 0), (1, 0), (2, 1)]])
        self.assertEqual(table.stones(), [(1, 2), (2, 3), (4, 3)])

    def test_left_as_it_is_and_turned(self):
        table = laid_table((1, 2), (0, "left", (0, 1)), (0, "left", (0, 9)))
        self.assertEqual(table.chain(0), [(9, 0), (0, 1), (1, 2)])
        self.assertEqual(table.laying(), [[(2, 1), (1, 0), (0, 0)]])
        self.assertEqual(table.stones(), [(1, 2), (0, 1), (0, 9)])

    def test_as_it_is_where_both_ways_fit(self):
        table = laid_table((1, 2), (0, "right", (2, 2)), (0, "left", (1, 1)))
        self.assertEqual(table.laying(), [[(2, 0), (0, 0), (1, 0)]])

    def test_either_side_of_the_same_chain(self):
        # The same stone fits at the one side as it is and at the other one turned.
        stone = (2, 1)
        table = laid_table((1, 2), (0, "right", stone))
        self.assertEqual(table.chain(0), [(1, 2), (2, 1)])
        table = laid_table((1, 2), (0, "left", stone))
        self.assertEqual(table.chain(0), [(2, 1), (1, 2)])
        table = laid_table((1, 2), (0, "right", (1, 2)))
        self.assertEqual(table.laying(), [[(0, 0), (1, 1)]])
        table = laid_table((1, 2), (0, "left", (1, 2)))
        self.assertEqual(table.laying(), [[(1, 1), (0, 0)]])

    def test_a_chain_that_closes_goes_on(self):
        table = laid_table((4, 4), (0, "right", (4, 4)), (0, "left", (4, 5)))
        self.assertEqual(table.chain(0), [(5, 4), (4, 4), (4, 4)])

    def test_the_chain_of_the_number(self):
        table = laid_table((1, 2), (1, 2), (1, 2), (1, "right", (2, 3)))
        self.assertEqual([table.chain(number) for number in range(3)], [[(1, 2)], [(1, 2), (2, 3)], [(1, 2)]])

    def test_lowest_and_highest_numbers(self):
        table = laid_table((0, 999999), (0, "right", (0, 999999)), (0, "left", (0, 0)))
        self.assertEqual(table.chain(0), [(0, 0), (0, 999999), (999999, 0)])
        self.assertEqual(table.open_ends(0), (0, 0))


class Back(unittest.TestCase):
    def test_it_tells_the_stone_as_it_was_handed_in(self):
        table = laid_table((1, 2), (0, "right", (3, 2)), (0, "left", (1, 5)))
        self.assertEqual(table.chain(0), [(5, 1), (1, 2), (2, 3)])
        self.assertEqual(table.back(), (1, 5))
        self.assertEqual(table.chain(0), [(1, 2), (2, 3)])
        self.assertEqual(table.back(), (3, 2))
        self.assertEqual(table.chain(0), [(1, 2)])
        self.assertEqual(table.back(), (1, 2))
        self.assertEqual(told_by(table), told_by(Table()))

    def test_the_kind_of_what_it_tells(self):
        told = laid_table((1, 2)).back()
        self.assertIs(type(told), tuple)
        self.assertEqual([type(end) for end in told], [int, int])

    def test_the_last_laid_one_of_several_chains(self):
        table = laid_table((1, 2), (5, 6), (0, "left", (0, 1)), (1, "right", (6, 6)), (0, "right", (2, 9)))
        self.assertEqual(table.back(), (2, 9))
        self.assertEqual(table.back(), (6, 6))
        self.assertEqual(table.back(), (0, 1))
        self.assertEqual([table.chain(0), table.chain(1)], [[(1, 2)], [(5, 6)]])
        self.assertEqual(table.back(), (5, 6))
        self.assertEqual(table.chains(), 1)
        with self.assertRaises(NoChain):
            table.chain(1)

    def test_alike_stones_at_both_ends(self):
        table = laid_table((4, 4), (0, "left", (4, 4)), (0, "right", (4, 4)), (0, "left", (4, 4)))
        self.assertEqual(table.laying(), [[(3, 0), (1, 0), (0, 0), (2, 0)]])
        table.back()
        self.assertEqual(table.laying(), [[(1, 0), (0, 0), (2, 0)]])
        table.back()
        self.assertEqual(table.laying(), [[(1, 0), (0, 0)]])

    def test_down_to_none_and_up_again(self):
        table = full_table()
        for many in range(59, -1, -1):
            self.assertEqual(table.back(), (1, 2))
            self.assertEqual(table.chains(), many)
        self.assertEqual(told_by(table), told_by(Table()))
        self.assertEqual(table.begin((3, 4)), 0)
        self.assertEqual(table.laying(), [[(0, 0)]])

    def test_there_is_room_again_behind_it(self):
        table = full_table()
        table.back()
        table.put(0, "right", (2, 3))
        with self.assertRaises(Full):
            table.begin((1, 2))


class Tells(unittest.TestCase):
    def test_the_kinds_of_what_is_told(self):
        table = laid_table((1, 2), (0, "right", (3, 2)), (7, 7))
        self.assertIs(type(table.chains()), int)
        self.assertIs(type(table.stones()), list)
        self.assertEqual([type(stone) for stone in table.stones()], [tuple] * 3)
        self.assertIs(type(table.chain(0)), list)
        self.assertEqual([type(stone) for stone in table.chain(0)], [tuple] * 2)
        self.assertIs(type(table.open_ends(0)), tuple)
        self.assertIs(type(table.fits((2, 3))), list)
        self.assertEqual([type(pair) for pair in table.fits((7, 1))], [tuple] * 3)
        self.assertEqual([type(part) for part in table.fits((7, 1))[0]], [int, str])
        assert_laying(self, table.stones(), table.laying())

    def test_open_ends(self):
        table = laid_table((1, 2), (7, 7), (0, "right", (3, 2)))
        self.assertEqual(table.open_ends(0), (1, 3))
        self.assertEqual(table.open_ends(1), (7, 7))
        table.put(0, "left", (1, 9))
        self.assertEqual(table.open_ends(0), (9, 3))

    def test_fits(self):
        table = laid_table((1, 2), (3, 1), (2, 2))
        self.assertEqual(table.fits((1, 1)), [(0, "left"), (1, "right")])
        self.assertEqual(table.fits((2, 9)), [(0, "right"), (2, "left"), (2, "right")])
        self.assertEqual(table.fits((9, 2)), [(0, "right"), (2, "left"), (2, "right")])
        self.assertEqual(table.fits((1, 2)),
                         [(0, "left"), (0, "right"), (1, "right"), (2, "left"), (2, "right")])
        self.assertEqual(table.fits((8, 9)), [])
        self.assertEqual(Table().fits((1, 2)), [])

    def test_fits_goes_by_open_ends_only(self):
        table = laid_table((1, 2), (0, "right", (2, 3)))
        self.assertEqual(table.fits((2, 2)), [])
        self.assertEqual(table.fits((2, 5)), [])
        self.assertEqual(table.fits((3, 2)), [(0, "right")])

    def test_fits_is_just_where_put_is_let(self):
        table = laid_table((1, 2), (3, 1), (2, 2), (1, "left", (0, 3)), (0, 0))
        for stone in DRAWN:
            let = []
            for number in range(table.chains()):
                for side in ("left", "right"):
                    try:
                        table.put(number, side, stone)
                    except NoFit:
                        continue
                    let.append((number, side))
                    self.assertEqual(table.back(), stone)
            with self.subTest(stone=stone):
                self.assertEqual(table.fits(stone), let)

    def test_fits_is_empty_where_no_stone_may_be_put(self):
        table = full_table()
        self.assertEqual(table.fits((1, 2)), [])
        table.back()
        self.assertEqual(len(table.fits((2, 3))), 59)

    def test_with_the_other_parts_of_the_program(self):
        table = laid_table((1, 2), (0, "right", (3, 2)), (0, "left", (3, 1)), (8, 9))
        stones, laying = table.stones(), table.laying()
        self.assertIs(is_fewest(stones, laying), True)
        self.assertEqual([closes(stones, chain) for chain in laying], [True, False])
        self.assertEqual(laying_text(stones, laying), "3-1 1-2 2-3 | 8-9")
        self.assertEqual(read(written(stones)), stones)


class DrawnDeeds(unittest.TestCase):
    def assert_as_model(self, table, model):
        self.assertEqual(table.chains(), len(model.rows))
        self.assertEqual(table.stones(), model.stones)
        self.assertEqual(table.laying(), model.rows)
        for number in range(len(model.rows)):
            self.assertEqual(table.chain(number), model.chain(number))
            self.assertEqual(table.open_ends(number), model.ends(number))
        for stone in DRAWN[::3]:
            self.assertEqual(table.fits(stone), model.fits(stone))
        self.assertIs(is_laying(table.stones(), table.laying()), True)

    def deed(self, draw, table, model, weights):
        """One deed, drawn, done on the table and on the model, or refused and done on neither."""
        kind = draw.choices(["begin", "put", "back"], weights)[0]
        stone = draw.choice(DRAWN)
        if kind == "back":
            if model.stones:
                self.assertEqual(table.back(), model.back())
            else:
                self.assertRaises(NoDeed, table.back)
        elif len(model.stones) == 60:
            self.assertRaises(Full, table.begin, stone)
            self.assertRaises(Full, table.put, 0, "left", stone)
        elif kind == "begin":
            self.assertEqual(table.begin(stone), model.begin(stone))
        else:
            self.put(draw, table, model, stone)

    def put(self, draw, table, model, stone):
        number, side = draw.randrange(len(model.rows) + 1), draw.choice(["left", "right"])
        if number == len(model.rows):
            self.assertRaises(NoChain, table.put, number, side, stone)
        elif model.way(number, side, stone) is None:
            self.assertRaises(NoFit, table.put, number, side, stone)
        else:
            table.put(number, side, stone)
            model.put(number, side, stone)

    def test_a_table_tells_what_its_deeds_made_of_it(self):
        draw = random.Random(20261120)
        for weights in [(1, 4, 2), (1, 4, 3), (2, 3, 1), (1, 9, 1), (1, 1, 2)]:
            for _ in range(4):
                table, model = Table(), Model()
                for _ in range(220):
                    self.deed(draw, table, model, weights)
                    self.assert_as_model(table, model)

    def test_taken_back_one_by_one(self):
        draw = random.Random(7)
        for _ in range(10):
            table, model = Table(), Model()
            for _ in range(90):
                self.deed(draw, table, model, (1, 6, 1))
            while model.stones:
                self.assertEqual(table.back(), model.back())
                self.assert_as_model(table, model)
            self.assertRaises(NoDeed, table.back)


class Refusals(unittest.TestCase):
    def assert_refused(self, refusal, table, deed, *things):
        before = repr(told_by(table))
        with self.assertRaises(refusal) as caught:
            deed(*things)
        self.assertIs(type(caught.exception), refusal)
        self.assertEqual(repr(told_by(table)), before)

    def table(self):
        return laid_table((1, 2), (0, "right", (3, 2)), (7, 7))

    def test_no_stone(self):
        for thing in NO_STONES:
            with self.subTest(thing=thing):
                table = self.table()
                self.assert_refused(NoStone, table, table.begin, thing)
                self.assert_refused(NoStone, table, table.fits, thing)
                self.assert_refused(NoStone, table, table.put, 0, "right", thing)
                self.assert_refused(NoStone, table, table.put, 9, "up", thing)
                self.assertRaises(NoStone, Table().begin, thing)
                self.assertRaises(NoStone, Table().fits, thing)

    def test_full(self):
        table = full_table()
        for stone in [(1, 2), (2, 2), (8, 9)]:
            self.assert_refused(Full, table, table.begin, stone)
            for side in ("left", "right"):
                self.assert_refused(Full, table, table.put, 0, side, stone)
        self.assertEqual(table.back(), (1, 2))

    def test_full_counts_stones_and_not_chains(self):
        table = laid_table((1, 1))
        for _ in range(59):
            table.put(0, "left", (1, 1))
        self.assert_refused(Full, table, table.begin, (1, 1))
        self.assert_refused(Full, table, table.put, 0, "left", (1, 1))
        self.assertEqual(len(table.chain(0)), 60)
        for _ in range(60):
            table.back()
        self.assertEqual(table.chains(), 0)

    def test_the_sixtieth_is_let(self):
        table = full_table()
        table.back()
        table.put(3, "right", (2, 3))
        self.assertEqual(len(table.stones()), 60)
        table.back()
        self.assertEqual(table.begin((2, 3)), 59)
        self.assertEqual(len(table.stones()), 60)

    def test_no_chain(self):
        for number in NO_NUMBERS:
            with self.subTest(number=number):
                table = self.table()
                self.assert_refused(NoChain, table, table.put, number, "right", (3, 4))
                self.assert_refused(NoChain, table, table.put, number, "right", (7, 4))
                self.assert_refused(NoChain, table, table.chain, number)
                self.assert_refused(NoChain, table, table.open_ends, number)
        for number in [0, *NO_NUMBERS]:
            with self.subTest(number=number):
                table = Table()
                self.assert_refused(NoChain, table, table.put, number, "right", (3, 4))
                self.assert_refused(NoChain, table, table.chain, number)
                self.assert_refused(NoChain, table, table.open_ends, number)

    def test_no_chain_by_things_of_every_kind(self):
        for name, thing in KINDS.items():
            if name not in ("0", "a number with a point"):
                with self.subTest(name=name):
                    table = self.table()
                    self.assert_refused(NoChain, table, table.put, thing, "right", (3, 4))
                    self.assert_refused(NoChain, table, table.chain, thing)
                    self.assert_refused(NoChain, table, table.open_ends, thing)

    def test_no_side(self):
        for side in [*NO_SIDES, *KINDS.values()]:
            with self.subTest(side=side):
                table = self.table()
                self.assert_refused(NoSide, table, table.put, 0, side, (3, 1))
                self.assert_refused(NoSide, table, table.put, 1, side, (7, 7))

    def test_no_fit(self):
        table = self.table()
        for number, side, stone in [(0, "left", (3, 4)), (0, "right", (1, 4)), (0, "left", (2, 2)),
                                    (0, "right", (2, 2)), (0, "left", (8, 9)), (1, "left", (1, 3)),
                                    (1, "right", (6, 8)), (1, "right", (0, 0))]:
            with self.subTest(number=number, side=side, stone=stone):
                self.assert_refused(NoFit, table, table.put, number, side, stone)

    def test_no_deed(self):
        table = Table()
        self.assert_refused(NoDeed, table, table.back)
        table.begin((1, 2))
        table.back()
        self.assert_refused(NoDeed, table, table.back)
        self.assertEqual(table.begin((1, 2)), 0)

    def test_a_refused_deed_is_no_deed(self):
        table = laid_table((1, 2))
        for things in [(0, "right", None), (1, "right", (2, 3)), (0, "up", (2, 3)), (0, "right", (5, 6))]:
            self.assertRaises(ValueError, table.put, *things)
        self.assertRaises(NoStone, table.begin, [1, 2])
        self.assertEqual(table.back(), (1, 2))
        self.assertRaises(NoDeed, table.back)

    def test_the_first_that_is_due(self):
        order = [NoStone, Full, NoChain, NoSide, NoFit]
        for due in product((False, True), repeat=5):
            table = full_table() if due[1] else laid_table((1, 2))
            stone = [8, 9] if due[0] else (8, 9) if due[4] else (2, 3)
            number = 60 if due[2] else 0
            side = "Right" if due[3] else "right"
            with self.subTest(due=due):
                if any(due):
                    self.assert_refused(order[due.index(True)], table, table.put, number, side, stone)
                else:
                    self.assertIsNone(table.put(number, side, stone))

    def test_no_stone_ahead_of_full(self):
        table = full_table()
        for thing in NO_STONES:
            with self.subTest(thing=thing):
                self.assert_refused(NoStone, table, table.begin, thing)
                self.assert_refused(NoStone, table, table.fits, thing)
                self.assert_refused(NoStone, table, table.put, 0, "right", thing)


class Lists(unittest.TestCase):
    def test_lists_that_are_told_are_the_askers_own(self):
        table = laid_table((1, 2), (0, "right", (3, 2)), (7, 7), (0, "left", (7, 1)))
        before = repr(told_by(table))
        for tell in [table.stones, table.laying, lambda: table.chain(0), lambda: table.chain(1),
                     lambda: table.fits((7, 3))]:
            told, other = tell(), repr(tell())
            spoil(told)
            self.assertEqual(repr(tell()), other)
            self.assertEqual(repr(told_by(table)), before)
        self.assertEqual(table.back(), (7, 1))
        self.assertEqual(table.back(), (7, 7))

    def test_lists_told_earlier_stay_behind_a_deed(self):
        table = laid_table((1, 2), (0, "right", (3, 2)))
        told = (table.stones(), table.laying(), table.chain(0), table.fits((3, 1)))
        before = repr(told)
        table.put(0, "left", (1, 1))
        table.begin((5, 6))
        self.assertEqual(repr(told), before)
        for _ in range(4):
            table.back()
        self.assertEqual(repr(told), before)

    def test_tuples_that_are_handed_in_are_not_kept(self):
        # Made at run time, so that no two of them are one by chance.
        handed = [tuple([1, 2]), tuple([2, 3]), tuple([1, 0])]
        table = laid_table(handed[0], (0, "right", handed[1]), (0, "left", handed[2]))
        for told in [*table.stones(), *table.chain(0), table.back(), table.back(), table.back()]:
            self.assertFalse(any(told is stone for stone in handed))

    def test_a_list_of_stones_is_put_down_one_by_one(self):
        for name, stones in GOOD.items():
            with self.subTest(name=name):
                table, handed = Table(), list(stones)
                for stone in handed:
                    table.begin(stone)
                self.assertEqual(handed, stones)
                self.assertEqual(table.stones(), stones)
                self.assertEqual([table.back() for _ in stones], stones[::-1])


class Interface(unittest.TestCase):
    METHODS = {
        "begin": ["stone"], "put": ["number", "side", "stone"], "back": [], "chain": ["number"],
        "open_ends": ["number"], "fits": ["stone"], "chains": [], "stones": [], "laying": [],
    }

    def test_the_class(self):
        self.assertEqual(Table.__module__, "stonerow.table")
        self.assertEqual(list(inspect.signature(Table).parameters), [])

    def test_each_method_is_defined_in_the_class_itself(self):
        for name, parameters in self.METHODS.items():
            with self.subTest(name=name):
                method = vars(Table)[name]
                self.assertTrue(inspect.isfunction(method))
                self.assertEqual(list(inspect.signature(method).parameters), ["self", *parameters])

    def test_arguments_by_name(self):
        table = Table()
        self.assertEqual(table.begin(stone=(1, 2)), 0)
        self.assertIsNone(table.put(number=0, side="right", stone=(2, 3)))
        self.assertEqual(table.chain(number=0), [(1, 2), (2, 3)])
        self.assertEqual(table.open_ends(number=0), (1, 3))
        self.assertEqual(table.fits(stone=(3, 1)), [(0, "left"), (0, "right")])


if __name__ == "__main__":
    unittest.main()
