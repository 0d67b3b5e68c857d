"""Lists that are handed in stay as they are and are not kept; lists that are told are the asker's own."""

import unittest

from stonerow.groups import fewest, groups, odd_ends, why
from stonerow.laying import laid
from tests.samples import GOOD, spoil


def all_odd_ends(stones):
    return odd_ends(stones, list(range(len(stones))))


TOLD = [groups, all_odd_ends, why, laid]


class Lists(unittest.TestCase):
    def test_what_is_told_may_be_changed(self):
        for name, stones in GOOD.items():
            for tell in TOLD:
                with self.subTest(name=name, tell=tell.__name__):
                    before = repr(tell(stones))
                    kept = list(stones)
                    spoil(tell(stones))
                    self.assertEqual(repr(tell(stones)), before)
                    self.assertEqual(stones, kept)

    def test_changing_one_told_list_changes_no_other(self):
        stones = [(1, 2), (3, 4), (2, 1), (3, 5), (3, 6)]
        for tell in TOLD:
            with self.subTest(tell=tell.__name__):
                one, other = tell(stones), tell(stones)
                before = repr(other)
                spoil(one)
                self.assertEqual(repr(other), before)

    def test_what_is_handed_in_stays_as_it_was(self):
        for name, stones in GOOD.items():
            for tell in [*TOLD, fewest]:
                with self.subTest(name=name, tell=tell.__name__):
                    handed = list(stones)
                    tell(handed)
                    self.assertEqual(handed, stones)

    def test_the_list_of_places_stays_as_it_was(self):
        places = [3, 0, 2]
        told = odd_ends([(5, 6), (7, 7), (6, 6), (1, 2)], places)
        self.assertEqual(places, [3, 0, 2])
        told.append(9)
        self.assertEqual(places, [3, 0, 2])

    def test_what_is_handed_in_is_not_kept(self):
        for tell in [*TOLD, fewest]:
            with self.subTest(tell=tell.__name__):
                stones = [(1, 2), (2, 3), (3, 1)]
                told = tell(stones)
                before = repr(told)
                stones[:] = [(8, 9), (7, 6)]
                self.assertEqual(repr(told), before)
                self.assertEqual(tell(stones), tell([(8, 9), (7, 6)]))
                self.assertNotEqual(repr(tell(stones)), before)


if __name__ == "__main__":
    unittest.main()
