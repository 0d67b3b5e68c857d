"""is_laying, is_fewest, closes."""

import copy
import inspect
import unittest
from itertools import permutations, product

from stonerow.checking import closes, is_fewest, is_laying
from stonerow.errors import NoStones
from stonerow.groups import fewest
from stonerow.laying import laid
from tests.samples import GOOD, KINDS, WRONG, as_it_lies, is_closed, mixed, small

ROW = [(1, 2), (3, 2), (3, 4)]
ROW_LAID = [[(0, 0), (1, 1), (2, 0)]]


def things_of(many):
    """Each way to put so many places in a row, turn them and part the row into chains."""
    for order in permutations(range(many)):
        for turns in product((0, 1), repeat=many):
            for parted in product((False, True), repeat=max(0, many - 1)):
                chains = []
                for at, step in enumerate(zip(order, turns)):
                    if at == 0 or parted[at - 1]:
                        chains.append([])
                    chains[-1].append(step)
                yield chains


def meets(stones, thing):
    """Whether all ends meet, in a thing of which all else is well."""
    return all(as_it_lies(stones, left)[1] == as_it_lies(stones, right)[0]
               for chain in thing for left, right in zip(chain, chain[1:]))


def singly(stones):
    """The laying in which each stone is a chain of its own."""
    return [[(place, 0)] for place in range(len(stones))]


class IsLaying(unittest.TestCase):
    def test_what_is_laid_is_a_laying(self):
        for stones in [*GOOD.values(), *mixed(), *small()]:
            with self.subTest(stones=stones):
                self.assertIs(is_laying(stones, laid(stones)), True)

    def test_layings_put_together_in_other_ways(self):
        for stones in [*GOOD.values(), *mixed(40)]:
            laying = laid(stones)
            other_way = [[(place, 1 - turned) for place, turned in reversed(chain)] for chain in laying]
            parted = [part for chain in laying for part in (chain[:1], chain[1:]) if part]
            for thing in [singly(stones), singly(stones)[::-1], laying[::-1], other_way, parted,
                          [[(place, 1)] for place in range(len(stones))]]:
                with self.subTest(stones=stones, thing=thing):
                    self.assertIs(is_laying(stones, thing), True)

    def test_just_the_layings_of_small_lists(self):
        for stones in small(3):
            for thing in things_of(len(stones)):
                with self.subTest(stones=stones, thing=thing):
                    self.assertIs(is_laying(stones, thing), meets(stones, thing))

    def test_no_stones(self):
        self.assertIs(is_laying([], []), True)
        for thing in [[[]], [[], []], [[(0, 0)]], [[(-1, 0)]], [()], (), {}, "", None, False, 0]:
            with self.subTest(thing=thing):
                self.assertIs(is_laying([], thing), False)

    def test_no_chains_where_there_are_stones(self):
        for name, stones in GOOD.items():
            with self.subTest(name=name):
                self.assertIs(is_laying(stones, []), stones == [])

    def test_a_stone_left_out_or_twice(self):
        for stones in [*GOOD.values(), *mixed(40)]:
            whole = singly(stones)
            for place in range(len(stones)):
                with self.subTest(stones=stones, place=place):
                    self.assertIs(is_laying(stones, whole[:place] + whole[place + 1:]), False)
                    self.assertIs(is_laying(stones, [*whole, [(place, 0)]]), False)
                    self.assertIs(is_laying(stones, [*whole, [(place, 1)]]), False)

    def test_a_stone_twice_within_a_chain(self):
        self.assertIs(is_laying([(4, 4)], [[(0, 0), (0, 0)]]), False)
        self.assertIs(is_laying([(1, 2)], [[(0, 0), (0, 1)]]), False)
        self.assertIs(is_laying([(4, 4), (4, 4)], [[(0, 0), (0, 0)]]), False)
        self.assertIs(is_laying([(4, 4), (4, 4)], [[(0, 0), (1, 0), (0, 0)]]), False)

    def test_a_place_that_is_not_there(self):
        for name, stones in GOOD.items():
            many = len(stones)
            for place in [many, many + 1, -1, -many, -many - 1, 10 ** 30, -10 ** 30]:
                if place == 0:
                    continue
                with self.subTest(name=name, place=place):
                    self.assertIs(is_laying(stones, [*singly(stones), [(place, 0)]]), False)
                    # In the stead of the stone that the same index from the end would find.
                    if stones:
                        self.assertIs(is_laying(stones, [*singly(stones)[:-1], [(place, 0)]]), False)
                        self.assertIs(is_laying(stones, [[(place, 0)], *singly(stones)[1:]]), False)

    def test_a_place_in_the_stead_of_another(self):
        self.assertIs(is_laying(ROW, [[(0, 0), (1, 1), (0, 0)]]), False)
        self.assertIs(is_laying(ROW, [[(0, 0)], [(1, 1)], [(1, 1)]]), False)
        self.assertIs(is_laying(ROW, [[(1, 0), (0, 1), (2, 0)]]), False)
        self.assertIs(is_laying([(1, 2), (1, 2)], [[(0, 0)], [(0, 0)]]), False)

    def test_a_step_turned(self):
        self.assertIs(is_laying(ROW, ROW_LAID), True)
        for at in range(3):
            chain = list(ROW_LAID[0])
            place, turned = chain[at]
            chain[at] = (place, 1 - turned)
            with self.subTest(at=at):
                self.assertIs(is_laying(ROW, [chain]), False)
        self.assertIs(is_laying([(1, 2), (2, 2), (2, 3)], [[(0, 0), (1, 1), (2, 0)]]), True)

    def test_two_chains_joined_and_one_parted(self):
        stones = [(1, 2), (2, 3), (5, 6), (3, 5)]
        self.assertIs(is_laying(stones, [[(0, 0), (1, 0)], [(2, 0)], [(3, 0)]]), True)
        self.assertIs(is_laying(stones, [[(0, 0), (1, 0), (2, 0)], [(3, 0)]]), False)
        self.assertIs(is_laying(stones, [[(0, 0), (1, 0), (3, 0)], [(2, 0)]]), True)
        self.assertIs(is_laying(stones, [[(0, 0)], [(1, 0), (3, 0), (2, 0)]]), True)
        self.assertIs(is_laying(stones, [[(0, 0)], [(1, 0)], [(3, 0)], [(2, 0)]]), True)

    def test_the_ends_that_meet_are_those_that_lie_together(self):
        self.assertIs(is_laying([(1, 2), (1, 3)], [[(0, 0), (1, 0)]]), False)
        self.assertIs(is_laying([(1, 2), (3, 1)], [[(0, 0), (1, 0)]]), False)
        self.assertIs(is_laying([(1, 2), (3, 2)], [[(0, 0), (1, 0)]]), False)
        self.assertIs(is_laying([(1, 2), (3, 2)], [[(0, 0), (1, 1)]]), True)
        self.assertIs(is_laying([(1, 2), (3, 4), (4, 5)], [[(0, 0), (1, 0), (2, 0)]]), False)
        self.assertIs(is_laying([(1, 2), (2, 3), (4, 5)], [[(0, 0), (1, 0), (2, 0)]]), False)

    def test_an_empty_chain(self):
        for thing in [[[], *ROW_LAID], [*ROW_LAID, []], [[(0, 0)], [], [(1, 1), (2, 0)]]]:
            with self.subTest(thing=thing):
                self.assertIs(is_laying(ROW, thing), False)

    def test_what_is_no_list_or_no_pair(self):
        chain = ROW_LAID[0]
        for thing in [tuple(ROW_LAID), [tuple(chain)], chain, {0: chain}, {tuple(chain)}, [dict(chain)], [set(chain)],
                      [chain, None], [None, chain], [chain, 0], [chain, ()], [chain, ""], [chain, (0, 0)],
                      [chain, {}], iter([chain]), [iter(chain)], [[chain]], [ROW_LAID]]:
            with self.subTest(thing=thing):
                self.assertIs(is_laying(ROW, thing), False)
        for step in [[2, 0], (2,), (), (2, 0, 0), (2, 0, 1), 2, None, "20", b"20", {2: 0}, {2, 0}, range(2, 0, -2),
                     ((2, 0),), ((2,), 0), (2, (0,)), ([2], 0), (2, [0]), (None, 0), (2, None), ("2", 0), (2, "0"),
                     ("2", "0"), ({}, {}), (2, "")]:
            with self.subTest(step=step):
                self.assertIs(is_laying(ROW, [[*chain[:2], step]]), False)
                self.assertIs(is_laying(ROW, [chain[:2], [step]]), False)
                self.assertIs(is_laying(ROW, [[step], chain[:2]]), False)

    def test_true_and_false_are_no_numbers(self):
        stones = [(4, 4), (4, 4)]
        self.assertIs(is_laying(stones, [[(0, 0), (1, 1)]]), True)
        for chain in [[(False, 0), (1, 1)], [(0, 0), (True, 1)], [(0, False), (1, 1)], [(0, 0), (1, True)],
                      [(0, True), (1, 1)], [(0, 0), (1, False)], [(False, False), (True, True)]]:
            with self.subTest(chain=chain):
                self.assertIs(is_laying(stones, [chain]), False)
                self.assertIs(is_laying(stones, [[step] for step in chain]), False)

    def test_turned_is_1_or_0(self):
        for turned in [2, -1, -2, 3, 10 ** 30, None, "", "1", (), []]:
            for stones in [[(1, 2)], [(4, 4)]]:
                with self.subTest(stones=stones, turned=turned):
                    self.assertIs(is_laying(stones, [[(0, turned)]]), False)

    def test_things_of_every_kind(self):
        for stones in [[], [(1, 2)], [(1, 1), (1, 1)], ROW]:
            for name, thing in KINDS.items():
                with self.subTest(stones=stones, name=name):
                    self.assertIs(is_laying(stones, thing), False)
                    self.assertIs(is_laying(stones, [thing]), False)
                    self.assertIs(is_laying(stones, [[thing]]), False)
                    if name != "0":
                        self.assertIs(is_laying([(4, 4)], [[(thing, 0)]]), False)
                        self.assertIs(is_laying([(4, 4)], [[(0, thing)]]), False)

    def test_a_list_that_holds_itself(self):
        knot = []
        knot.append(knot)
        self.assertIs(is_laying([(1, 2)], knot), False)
        self.assertIs(is_laying([(1, 2)], [[(0, 0)], knot]), False)

    def test_the_laying_of_other_stones(self):
        self.assertIs(is_laying([(1, 2), (3, 4)], laid([(1, 2), (2, 4)])), False)
        self.assertIs(is_laying([(1, 2)], laid([(1, 2), (2, 3)])), False)
        self.assertIs(is_laying([(1, 2), (2, 3)], laid([(1, 2)])), False)


class IsFewest(unittest.TestCase):
    def test_what_is_laid_is_of_the_fewest(self):
        for stones in [*GOOD.values(), *mixed(), *small()]:
            with self.subTest(stones=stones):
                self.assertIs(is_fewest(stones, laid(stones)), True)

    def test_one_chain_more_than_it_takes(self):
        for stones in [*GOOD.values(), *mixed()]:
            laying = laid(stones)
            for at, chain in enumerate(laying):
                if len(chain) > 1:
                    thing = [*laying[:at], chain[:1], chain[1:], *laying[at + 1:]]
                    with self.subTest(stones=stones, at=at):
                        self.assertIs(is_laying(stones, thing), True)
                        self.assertIs(is_fewest(stones, thing), False)

    def test_of_small_lists_those_of_the_fewest_chains(self):
        for stones in small(3):
            things = [thing for thing in things_of(len(stones)) if meets(stones, thing)]
            least = min(len(thing) for thing in things)
            self.assertEqual(fewest(stones), least)
            for thing in things:
                with self.subTest(stones=stones, thing=thing):
                    self.assertIs(is_fewest(stones, thing), len(thing) == least)

    def test_another_laying_of_just_so_many(self):
        self.assertIs(is_fewest(ROW, [[(2, 1), (1, 0), (0, 1)]]), True)
        stones = [(0, 1), (0, 2), (0, 3)]
        self.assertIs(is_fewest(stones, [[(0, 1), (1, 0)], [(2, 0)]]), True)
        self.assertIs(is_fewest(stones, [[(2, 1)], [(1, 1), (0, 0)]]), True)
        self.assertIs(is_fewest(stones, singly(stones)), False)
        # Several chains are of the fewest where the stones do not hang together.
        self.assertIs(is_fewest([(1, 2), (3, 4)], [[(1, 1)], [(0, 0)]]), True)

    def test_what_is_no_laying(self):
        self.assertIs(is_fewest([], []), True)
        self.assertIs(is_fewest([], [[]]), False)
        for thing in [[], [[(0, 0)]], [[(0, 0), (1, 0), (2, 0)]], [[(0, 0), (1, 1), (1, 1)]],
                      [[(False, 0), (1, 1), (2, 0)]], [[(0, 0), (1, True), (2, 0)]], ROW_LAID[0], tuple(ROW_LAID)]:
            with self.subTest(thing=thing):
                self.assertIs(is_fewest(ROW, thing), False)
        for name, thing in KINDS.items():
            for stones in [[], [(1, 2)], ROW]:
                with self.subTest(name=name, stones=stones):
                    self.assertIs(is_fewest(stones, thing), False)


class Closes(unittest.TestCase):
    def test_a_chain_that_closes_and_one_that_does_not(self):
        stones = [(1, 2), (2, 3), (3, 1), (3, 4)]
        self.assertIs(closes(stones, [(0, 0), (1, 0), (2, 0)]), True)
        self.assertIs(closes(stones, [(1, 0), (2, 0), (0, 0)]), True)
        self.assertIs(closes(stones, [(2, 1), (1, 1), (0, 1)]), True)
        self.assertIs(closes(stones, [(0, 0), (1, 0)]), False)
        self.assertIs(closes(stones, [(0, 0), (1, 0), (3, 0)]), False)
        self.assertIs(closes(stones, [(3, 1), (2, 0), (0, 0)]), False)

    def test_as_the_stones_lie(self):
        stones = [(1, 2), (1, 2)]
        self.assertIs(closes(stones, [(0, 0), (1, 1)]), True)
        self.assertIs(closes(stones, [(0, 1), (1, 0)]), True)
        self.assertIs(closes([(1, 2), (3, 2)], [(0, 0), (1, 1)]), False)
        # Here the ends that meet are alike, and so are two ends that do not lie at the chain's ends.
        self.assertIs(closes([(1, 2), (2, 2), (2, 3)], [(0, 0), (1, 0), (2, 0)]), False)

    def test_one_stone(self):
        self.assertIs(closes([(4, 4)], [(0, 0)]), True)
        self.assertIs(closes([(4, 4)], [(0, 1)]), True)
        self.assertIs(closes([(4, 5)], [(0, 0)]), False)
        self.assertIs(closes([(4, 5)], [(0, 1)]), False)
        self.assertIs(closes([(1, 2), (0, 0)], [(1, 0)]), True)

    def test_each_chain_of_what_is_laid(self):
        for stones in [*GOOD.values(), *mixed()]:
            for chain in laid(stones):
                with self.subTest(stones=stones, chain=chain):
                    self.assertIs(closes(stones, chain), is_closed(stones, chain))

    def test_each_chain_of_small_lists(self):
        for stones in small(3):
            for thing in things_of(len(stones)):
                if len(thing) == 1 and meets(stones, thing):
                    with self.subTest(stones=stones, chain=thing[0]):
                        self.assertIs(closes(stones, thing[0]), is_closed(stones, thing[0]))

    def test_what_is_no_chain_does_not_close(self):
        for thing in [[], [(1, 0)], [(-1, 0)], [(0, 2)], [(0, False)], [(False, 0)], [[0, 0]], ((0, 0),), None]:
            with self.subTest(thing=thing):
                self.assertIs(closes([(4, 4)], thing), False)


class KindsAndRefusals(unittest.TestCase):
    def test_arguments_and_the_file_of_definition(self):
        for told, names in [(is_laying, ["stones", "thing"]), (is_fewest, ["stones", "thing"]),
                            (closes, ["stones", "chain"])]:
            with self.subTest(told=told.__name__):
                self.assertEqual(list(inspect.signature(told).parameters), names)
                self.assertEqual(told.__module__, "stonerow.checking")

    def test_wrong_stones_are_refused_ahead_of_all_else(self):
        for name, stones in WRONG.items():
            for thing in [[], [[(0, 0)]], [(0, 0)], [[]], [[(99, 0)]], [[(True, 2)]], *KINDS.values()]:
                for told in [is_laying, is_fewest, closes]:
                    with self.subTest(name=name, thing=thing, told=told.__name__):
                        with self.assertRaises(NoStones):
                            told(stones, thing)

    def test_what_is_handed_in_stays_as_it_was(self):
        for stones in GOOD.values():
            for thing in [laid(stones), singly(stones)[::-1], [[]], [[(0, 0)], [None]]]:
                for told in [is_laying, is_fewest]:
                    with self.subTest(stones=stones, thing=thing, told=told.__name__):
                        handed, shown = list(stones), copy.deepcopy(thing)
                        told(handed, shown)
                        self.assertEqual((handed, shown), (stones, thing))
            for chain in laid(stones):
                with self.subTest(stones=stones, chain=chain):
                    handed, shown = list(stones), list(chain)
                    closes(handed, shown)
                    self.assertEqual((handed, shown), (stones, chain))

    def test_what_is_handed_in_is_not_kept(self):
        stones, thing = [(1, 2), (2, 3)], [[(0, 0), (1, 0)]]
        self.assertIs(is_fewest(stones, thing), True)
        self.assertIs(closes(stones, thing[0]), False)
        thing[0].reverse()
        self.assertIs(is_laying(stones, thing), False)
        stones[:] = [(2, 1), (1, 2)]
        self.assertIs(is_fewest(stones, thing), True)
        self.assertIs(closes(stones, thing[0]), True)


if __name__ == "__main__":
    unittest.main()
