"""laid: each stone once, ends that meet alike, no laying of fewer chains."""

import inspect
import unittest

from stonerow.errors import NoStones
from stonerow.groups import fewest, why
from stonerow.laying import laid
from tests.samples import GOOD, WRONG, assert_laying, fewest_by_trial, is_closed, mixed, small


class Laid(unittest.TestCase):
    def assert_well_laid(self, stones):
        laying = laid(stones)
        assert_laying(self, stones, laying)
        explained = why(stones)
        self.assertEqual(len(laying), fewest(stones))
        for group, odd in explained:
            chains = [chain for chain in laying if chain[0][0] in group]
            closed = [is_closed(stones, chain) for chain in chains]
            if odd:
                self.assertEqual(closed, [False] * (len(odd) // 2))
            else:
                self.assertEqual(closed, [True])

    def test_no_stones_no_chains(self):
        self.assertEqual(laid([]), [])

    def test_where_only_one_laying_is_possible(self):
        self.assertIn(laid([(1, 2)]), [[[(0, 0)]], [[(0, 1)]]])
        self.assertIn(laid([(1, 2), (3, 2)]), [[[(0, 0), (1, 1)]], [[(1, 0), (0, 1)]]])

    def test_ordinary_lists_and_edges(self):
        for name, stones in GOOD.items():
            with self.subTest(name=name):
                self.assert_well_laid(stones)

    def test_each_small_list(self):
        for stones in small():
            with self.subTest(stones=stones):
                self.assert_well_laid(stones)

    def test_each_place_among_few_numbers(self):
        # The same stones in another order lead the walks another way.
        stones = GOOD["a ring behind a ring on a row"]
        for shift in range(len(stones)):
            turned = [stone[::-1] for stone in stones]
            for row in [stones[shift:] + stones[:shift], turned[shift:] + turned[:shift]]:
                with self.subTest(row=row):
                    self.assert_well_laid(row)
                    self.assert_well_laid(row[::-1])

    def test_mixed_lists(self):
        for stones in mixed():
            with self.subTest(stones=stones):
                self.assert_well_laid(stones)

    def test_told_again_the_same(self):
        first = [laid(list(stones)) for stones in GOOD.values()]
        again = [laid(list(stones)) for stones in reversed(GOOD.values())]
        self.assertEqual(first, again[::-1])

    def test_argument_and_the_file_of_definition(self):
        self.assertEqual(list(inspect.signature(laid).parameters), ["stones"])
        self.assertEqual(laid.__module__, "stonerow.laying")

    def test_wrong_things_are_refused(self):
        for name, thing in WRONG.items():
            with self.subTest(name=name):
                with self.assertRaises(NoStones):
                    laid(thing)


class ThePromise(unittest.TestCase):
    def test_no_laying_has_fewer_chains(self):
        for stones in small():
            with self.subTest(stones=stones):
                self.assertEqual(fewest(stones), fewest_by_trial(stones))
                self.assertEqual(len(laid(stones)), fewest_by_trial(stones))

    def test_no_laying_has_fewer_chains_among_more_numbers(self):
        for stones in [[(0, 1), (2, 3), (1, 2), (4, 4), (5, 4)], [(0, 1), (0, 2), (0, 3), (0, 4), (0, 5)],
                       [(0, 1), (2, 3), (4, 5), (6, 7), (8, 9)], [(0, 1), (1, 2), (2, 0), (3, 4), (4, 3)]]:
            with self.subTest(stones=stones):
                self.assertEqual(fewest(stones), fewest_by_trial(stones))
                self.assertEqual(len(laid(stones)), fewest_by_trial(stones))

    def test_one_stone_more_changes_the_fewest_by_one_at_most(self):
        for stones in [*small(3), *(stones for stones in mixed(40) if len(stones) < 60)]:
            for stone in [(0, 0), (0, 1), (2, 1), (1, 99), (99, 100), (99, 99), (3, 20)]:
                for longer in [[*stones, stone], [stone, *stones]]:
                    with self.subTest(stones=stones, stone=stone):
                        self.assertLessEqual(abs(fewest(longer) - fewest(stones)), 1)

    def test_one_stone_less_changes_the_fewest_by_one_at_most(self):
        for stones in [*small(3), *GOOD.values(), *mixed(40)]:
            for place in range(len(stones)):
                with self.subTest(stones=stones, place=place):
                    shorter = stones[:place] + stones[place + 1:]
                    self.assertLessEqual(abs(fewest(shorter) - fewest(stones)), 1)


if __name__ == "__main__":
    unittest.main()
