"""groups, odd_ends, fewest and why."""

import inspect
import unittest

from stonerow.errors import NoStones
from stonerow.groups import fewest, groups, odd_ends, why
from tests.samples import GOOD, WRONG, mixed


def groups_by_spreading(stones):
    """The groups, found by spreading from each place to all that share a number, until none is new."""
    found = []
    for first in range(len(stones)):
        if any(first in group for group in found):
            continue
        group = [first]
        for place in group:
            for other in range(len(stones)):
                if other not in group and set(stones[other]) & set(stones[place]):
                    group.append(other)
        found.append(sorted(group))
    return found


def odd_by_counting(stones, group):
    ends = [end for place in group for end in stones[place]]
    return sorted(end for end in set(ends) if ends.count(end) % 2 == 1)


class Groups(unittest.TestCase):
    def test_no_stones(self):
        self.assertEqual(groups([]), [])

    def test_one_group(self):
        self.assertEqual(groups([(1, 2)]), [[0]])
        self.assertEqual(groups([(4, 4)]), [[0]])
        self.assertEqual(groups([(1, 2), (2, 3), (3, 4)]), [[0, 1, 2]])
        self.assertEqual(groups([(1, 2), (3, 2), (1, 4)]), [[0, 1, 2]])

    def test_several_groups(self):
        self.assertEqual(groups([(1, 2), (3, 4), (5, 6)]), [[0], [1], [2]])
        self.assertEqual(groups([(9, 8), (1, 2), (8, 7), (2, 3)]), [[0, 2], [1, 3]])

    def test_alike_stones_hang_together(self):
        self.assertEqual(groups([(1, 2), (5, 6), (1, 2), (2, 1)]), [[0, 2, 3], [1]])

    def test_doubles(self):
        self.assertEqual(groups([(1, 1), (2, 2), (1, 1)]), [[0, 2], [1]])
        self.assertEqual(groups([(1, 1), (2, 2), (1, 2)]), [[0, 1, 2]])

    def test_through_a_third_one_in_any_order(self):
        self.assertEqual(groups([(1, 2), (3, 4), (2, 3)]), [[0, 1, 2]])
        self.assertEqual(groups([(1, 2), (3, 4), (9, 9), (3, 2)]), [[0, 1, 3], [2]])
        self.assertEqual(groups([(1, 2), (7, 8), (5, 6), (3, 4), (6, 7), (4, 5), (2, 3)]), [[0, 1, 2, 3, 4, 5, 6]])

    def test_each_group_rises_and_the_groups_go_by_their_first_places(self):
        stones = [(50, 60), (1, 2), (9, 9), (3, 4), (60, 40), (2, 3), (9, 8)]
        self.assertEqual(groups(stones), [[0, 4], [1, 3, 5], [2, 6]])
        # The group of the first place takes in the others late, at the last stone.
        self.assertEqual(groups([(5, 6), (3, 4), (1, 2), (2, 6)]), [[0, 2, 3], [1]])

    def test_lowest_and_highest_number(self):
        self.assertEqual(groups([(0, 1), (999999, 2), (999998, 999999), (3, 0)]), [[0, 3], [1, 2]])

    def test_sixty_stones(self):
        self.assertEqual(groups(GOOD["just 60 apart"]), [[k] for k in range(60)])
        self.assertEqual(groups(GOOD["just 60 in a ring"]), [list(range(60))])
        self.assertEqual(groups(GOOD["60 in ten rings"]), [list(range(k, k + 6)) for k in range(0, 60, 6)])

    def test_against_spreading(self):
        for stones in [*GOOD.values(), *mixed()]:
            with self.subTest(stones=stones):
                self.assertEqual(groups(stones), groups_by_spreading(stones))


class OddEnds(unittest.TestCase):
    def test_no_places(self):
        self.assertEqual(odd_ends([], []), [])
        self.assertEqual(odd_ends([(1, 2), (2, 3)], []), [])

    def test_one_stone(self):
        self.assertEqual(odd_ends([(1, 2)], [0]), [1, 2])
        self.assertEqual(odd_ends([(2, 1)], [0]), [1, 2])

    def test_both_ends_of_a_double_count(self):
        self.assertEqual(odd_ends([(3, 3)], [0]), [])
        self.assertEqual(odd_ends([(3, 3), (3, 4)], [0, 1]), [3, 4])
        self.assertEqual(odd_ends([(1, 2), (2, 2), (2, 3)], [0, 1, 2]), [1, 3])

    def test_alike_stones(self):
        self.assertEqual(odd_ends([(1, 2), (1, 2)], [0, 1]), [])
        self.assertEqual(odd_ends([(1, 2), (2, 1), (1, 2)], [0, 1, 2]), [1, 2])

    def test_a_part_of_the_stones_only(self):
        stones = [(1, 2), (2, 3), (3, 1), (1, 9)]
        self.assertEqual(odd_ends(stones, [0, 1, 2]), [])
        self.assertEqual(odd_ends(stones, [0, 1]), [1, 3])
        self.assertEqual(odd_ends(stones, [3]), [1, 9])
        self.assertEqual(odd_ends(stones, [0, 1, 2, 3]), [1, 9])

    def test_places_of_several_groups_in_any_order(self):
        stones = [(7, 8), (1, 2), (8, 9), (5, 6)]
        self.assertEqual(odd_ends(stones, [3, 0]), [5, 6, 7, 8])
        self.assertEqual(odd_ends(stones, [2, 1, 0]), [1, 2, 7, 9])

    def test_rising(self):
        stones = [(100, 9), (20, 0), (999999, 3)]
        self.assertEqual(odd_ends(stones, [0, 1, 2]), [0, 3, 9, 20, 100, 999999])

    def test_a_place_without_a_stone_has_no_ends(self):
        stones = [(1, 2), (3, 4)]
        self.assertEqual(odd_ends(stones, [0, 2, 60]), [1, 2])
        self.assertEqual(odd_ends(stones, [-1, 0]), [1, 2])

    def test_against_counting(self):
        for stones in [*GOOD.values(), *mixed()]:
            places = list(range(len(stones)))
            for part in [places, places[::2], places[::-3], places[:5], *groups(stones)]:
                with self.subTest(stones=stones, part=part):
                    self.assertEqual(odd_ends(stones, part), odd_by_counting(stones, part))


class FewestAndWhy(unittest.TestCase):
    def test_no_stones_take_no_chain(self):
        self.assertEqual(fewest([]), 0)
        self.assertEqual(why([]), [])

    def test_a_group_without_odd_ends_takes_one(self):
        for name in ["one double", "two alike", "alike doubles", "a ring", "a ring with doubles",
                     "two rings with one number in common", "each two of five", "just 60 in a ring"]:
            with self.subTest(name=name):
                stones = GOOD[name]
                self.assertEqual(fewest(stones), 1)
                self.assertEqual(why(stones), [(list(range(len(stones))), [])])

    def test_else_half_as_many_as_it_has_odd_ends(self):
        self.assertEqual(fewest([(1, 2)]), 1)
        self.assertEqual(why([(2, 1)]), [([0], [1, 2])])
        self.assertEqual(fewest(GOOD["a star of three"]), 2)
        self.assertEqual(why(GOOD["a star of three"]), [([0, 1, 2], [0, 1, 2, 3])])
        self.assertEqual(fewest(GOOD["a star of four"]), 2)
        self.assertEqual(why(GOOD["a star of four"]), [([0, 1, 2, 3], [1, 2, 3, 4])])
        self.assertEqual(fewest(GOOD["each two of four"]), 2)
        self.assertEqual(fewest(GOOD["a star of 60"]), 30)

    def test_several_groups(self):
        self.assertEqual(fewest([(1, 2), (3, 4)]), 2)
        self.assertEqual(fewest([(7, 7), (1, 2)]), 2)
        stones = [(9, 1), (4, 5), (9, 2), (5, 6), (9, 3), (6, 4), (8, 8)]
        self.assertEqual(why(stones), [([0, 2, 4], [1, 2, 3, 9]), ([1, 3, 5], []), ([6], [])])
        self.assertEqual(fewest(stones), 4)

    def test_domino_set(self):
        self.assertEqual(fewest(GOOD["domino set"]), 1)
        self.assertEqual(why(GOOD["domino set"]), [(list(range(28)), [])])

    def test_sixty_stones(self):
        self.assertEqual(fewest(GOOD["just 60 apart"]), 60)
        self.assertEqual(fewest(GOOD["just 60 doubles"]), 60)
        self.assertEqual(fewest(GOOD["just 60 alike"]), 1)
        self.assertEqual(fewest(GOOD["60 in ten rings"]), 10)

    def test_why_pairs_each_group_with_its_odd_ends(self):
        for stones in [*GOOD.values(), *mixed()]:
            with self.subTest(stones=stones):
                expected = [(group, odd_by_counting(stones, group)) for group in groups_by_spreading(stones)]
                self.assertEqual(why(stones), expected)
                self.assertEqual(fewest(stones), sum(max(1, len(odd) // 2) for _, odd in expected))


class KindsAndRefusals(unittest.TestCase):
    def test_the_kinds_of_what_is_told(self):
        for stones in GOOD.values():
            with self.subTest(stones=stones):
                self.assertIs(type(groups(stones)), list)
                self.assertIs(type(why(stones)), list)
                self.assertIs(type(fewest(stones)), int)
                for group in groups(stones):
                    self.assertIs(type(group), list)
                for pair in why(stones):
                    self.assertIs(type(pair), tuple)
                    self.assertEqual([type(part) for part in pair], [list, list])
                self.assertIs(type(odd_ends(stones, list(range(len(stones))))), list)

    def test_arguments_and_the_file_of_definition(self):
        for told, names in [(groups, ["stones"]), (odd_ends, ["stones", "group"]),
                            (why, ["stones"]), (fewest, ["stones"])]:
            with self.subTest(told=told.__name__):
                self.assertEqual(list(inspect.signature(told).parameters), names)
                self.assertEqual(told.__module__, "stonerow.groups")

    def test_wrong_things_are_refused(self):
        for name, thing in WRONG.items():
            for told in [groups, why, fewest]:
                with self.subTest(name=name, told=told.__name__):
                    with self.assertRaises(NoStones):
                        told(thing)

    def test_odd_ends_refuses_wrong_stones_ahead_of_all_else(self):
        for name, thing in WRONG.items():
            for group in [[], [0], [99], [-1], None, 7, "0", ["0"], [None]]:
                with self.subTest(name=name, group=group):
                    with self.assertRaises(NoStones):
                        odd_ends(thing, group)


if __name__ == "__main__":
    unittest.main()
