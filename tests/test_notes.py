"""written, read, laying_text."""

import copy
import inspect
import re
import unittest
from itertools import product

from stonerow.errors import NoLaying, NoStones, NoText
from stonerow.laying import laid
from stonerow.notes import laying_text, read, written
from tests.samples import GOOD, KINDS, WRONG, as_it_lies, mixed

# A stone as the document writes it: numbers of at most six figures, no nought ahead but 0 itself.
WORD = re.compile(r"(0|[1-9][0-9]{0,5})-(0|[1-9][0-9]{0,5})")


class Written(unittest.TestCase):
    def test_no_stones(self):
        self.assertEqual(written([]), "")

    def test_stones(self):
        self.assertEqual(written([(3, 4)]), "3-4")
        self.assertEqual(written([(4, 3)]), "4-3")
        self.assertEqual(written([(1, 2), (2, 2), (3, 2)]), "1-2 2-2 3-2")

    def test_alike_stones(self):
        self.assertEqual(written([(1, 2), (2, 1), (1, 2)]), "1-2 2-1 1-2")

    def test_lowest_and_highest(self):
        self.assertEqual(written([(0, 999999), (0, 0), (999999, 999999), (100000, 10)]),
                         "0-999999 0-0 999999-999999 100000-10")

    def test_sixty(self):
        self.assertEqual(written([(7, 8)] * 60), " ".join(["7-8"] * 60))
        self.assertEqual(written(GOOD["just 60 apart"])[:12], "0-1 2-3 4-5 ")

    def test_against_the_pattern(self):
        for stones in [*GOOD.values(), *mixed()]:
            with self.subTest(stones=stones):
                text = written(stones)
                self.assertIs(type(text), str)
                words = text.split(" ") if stones else []
                self.assertEqual(len(words), len(stones))
                for word, stone in zip(words, stones):
                    self.assertEqual(tuple(int(end) for end in WORD.fullmatch(word).groups()), stone)

    def test_wrong_stones_are_refused(self):
        for name, stones in WRONG.items():
            with self.subTest(name=name):
                with self.assertRaises(NoStones):
                    written(stones)


class Read(unittest.TestCase):
    def assert_refused(self, text):
        with self.subTest(text=text):
            with self.assertRaises(NoText):
                read(text)

    def test_no_stones(self):
        self.assertEqual(read(""), [])

    def test_stones(self):
        self.assertEqual(read("3-4"), [(3, 4)])
        self.assertEqual(read("4-3"), [(4, 3)])
        self.assertEqual(read("1-2 2-2 3-2"), [(1, 2), (2, 2), (3, 2)])
        self.assertEqual(read("1-2 1-2 2-1"), [(1, 2), (1, 2), (2, 1)])

    def test_lowest_and_highest(self):
        self.assertEqual(read("0-0"), [(0, 0)])
        self.assertEqual(read("0-999999 999999-0"), [(0, 999999), (999999, 0)])
        self.assertEqual(read("100000-10"), [(100000, 10)])

    def test_the_kinds_of_what_is_read(self):
        stones = read("1-2 0-3")
        self.assertIs(type(stones), list)
        self.assertEqual([type(stone) for stone in stones], [tuple, tuple])
        self.assertEqual([type(end) for stone in stones for end in stone], [int] * 4)

    def test_what_is_written_is_read_as_the_same(self):
        for stones in [*GOOD.values(), *mixed()]:
            with self.subTest(stones=stones):
                self.assertEqual(read(written(stones)), stones)

    def test_what_is_read_is_written_as_the_same(self):
        for text in ["", "0-0", "3-4", "3-4 4-3", "999999-0 10-100", " ".join(["5-5"] * 60)]:
            with self.subTest(text=text):
                self.assertEqual(written(read(text)), text)

    def test_each_word_of_few_signs(self):
        # Each text of up to five signs, so each wrong form that is that short.
        for length in range(1, 6):
            for signs in product("01-9 a"[: 6 if length < 5 else 5], repeat=length):
                text = "".join(signs)
                words = [WORD.fullmatch(word) for word in text.split(" ")]
                if all(words):
                    self.assertEqual(read(text), [tuple(map(int, word.groups())) for word in words])
                else:
                    with self.assertRaises(NoText, msg=text):
                        read(text)

    def test_noughts_ahead(self):
        for text in ["01-2", "1-02", "00-0", "0-00", "000001-2", "1-2 03-4", "0000000-1"]:
            self.assert_refused(text)

    def test_seven_figures(self):
        for text in ["1000000-1", "1-1000000", "1-2 3-1234567", "0-9999999", "0-" + "9" * 5000, "1" * 5000 + "-1"]:
            self.assert_refused(text)

    def test_a_sign_ahead(self):
        for text in ["+1-2", "1-+2", "-1-2", "1--2", "+1-+2", "-1--2"]:
            self.assert_refused(text)

    def test_more_or_fewer_lines_between(self):
        for text in ["1--2", "1-2-3", "-1-2", "1-2-", "--", "12", "1", "0", "1 2", "1-2 3", "3 1-2"]:
            self.assert_refused(text)

    def test_an_end_left_out(self):
        for text in ["-", "1-", "-2", "1-2 -3", "1-2 3-", "- 1-2"]:
            self.assert_refused(text)

    def test_signs_that_are_no_figures(self):
        for text in ["a-1", "1-a", "1a-2", "1-2b", "x", "1_0-2", "1.0-2", "1,2", "1:2", "1-2,", "1-2, 2-3", "(1, 2)",
                     "0x1-2", "1e1-2", "1-2|2-3", "1-2 | 2-3", "|", "~-1", "1/2", "[]", "None", "True-False"]:
            self.assert_refused(text)

    def test_each_other_sign_in_each_place(self):
        for sign in map(chr, range(ord(" "), ord("~") + 1)):
            if sign not in "0123456789":
                for text in [sign + "1-2", "1" + sign + "-2", "1-" + sign + "2", "1-2" + sign, sign]:
                    self.assert_refused(text)

    def test_blanks(self):
        for text in [" ", "  ", " 1-2", "1-2 ", " 1-2 ", "1-2  2-3", "1-2   2-3", "1 -2", "1- 2", "1 - 2"]:
            self.assert_refused(text)

    def test_more_than_sixty(self):
        self.assertEqual(read(" ".join(["1-2"] * 60)), [(1, 2)] * 60)
        for many in [61, 62, 1000]:
            self.assert_refused(" ".join(["1-2"] * many))

    def test_a_wrong_word_in_any_place(self):
        for at in range(60):
            words = ["1-2"] * 60
            words[at] = "1-2-3"
            self.assert_refused(" ".join(words))

    def test_the_list_is_the_askers_own(self):
        one = read("1-2 2-3")
        one.append((3, 4))
        self.assertEqual(read("1-2 2-3"), [(1, 2), (2, 3)])
        empty = read("")
        empty.append((3, 4))
        self.assertEqual(read(""), [])

    def test_what_is_no_text(self):
        for name, thing in KINDS.items():
            if not isinstance(thing, str):
                with self.subTest(name=name):
                    with self.assertRaises(NoText):
                        read(thing)


class LayingText(unittest.TestCase):
    def test_no_stones(self):
        self.assertEqual(laying_text([], []), "")

    def test_one_chain(self):
        self.assertEqual(laying_text([(3, 4)], [[(0, 0)]]), "3-4")
        self.assertEqual(laying_text([(2, 3), (1, 2)], [[(1, 0), (0, 0)]]), "1-2 2-3")

    def test_turned_stones(self):
        self.assertEqual(laying_text([(3, 4)], [[(0, 1)]]), "4-3")
        self.assertEqual(laying_text([(1, 2), (3, 2), (3, 3)], [[(0, 0), (1, 1), (2, 1)]]), "1-2 2-3 3-3")

    def test_several_chains(self):
        stones = [(1, 2), (5, 6), (3, 2), (0, 999999)]
        self.assertEqual(laying_text(stones, [[(0, 0), (2, 1)], [(1, 0)], [(3, 1)]]), "1-2 2-3 | 5-6 | 999999-0")
        self.assertEqual(laying_text(stones, [[(3, 0)], [(1, 1)], [(2, 0), (0, 1)]]), "0-999999 | 6-5 | 3-2 2-1")

    def test_more_chains_than_it_takes(self):
        self.assertEqual(laying_text([(1, 2), (2, 3)], [[(0, 0)], [(1, 0)]]), "1-2 | 2-3")

    def test_what_is_laid(self):
        for stones in [*GOOD.values(), *mixed()]:
            laying = laid(stones)
            with self.subTest(stones=stones):
                text = laying_text(stones, laying)
                self.assertIs(type(text), str)
                parts = text.split(" | ") if stones else []
                self.assertEqual([read(part) for part in parts],
                                 [[as_it_lies(stones, step) for step in chain] for chain in laying])

    def test_what_is_no_laying_is_refused(self):
        stones = [(1, 2), (3, 2)]
        for thing in [[], [[]], [[(0, 0)]], [[(0, 0), (1, 0)]], [[(0, 0)], [(0, 0)]], [[(0, 0), (1, 1)], []],
                      [[(0, 0), (1, 1), (1, 0)]], [[(0, 0), (2, 0)]], [[(0, 0)], [(-1, 0)]], [[(0, 0), (1, True)]],
                      [[(False, 0), (1, 1)]], [[(0, 0), (1, 2)]], [[[0, 0], [1, 1]]], [((0, 0), (1, 1))],
                      ([(0, 0), (1, 1)],), [(0, 0), (1, 1)], *KINDS.values()]:
            with self.subTest(thing=thing):
                with self.assertRaises(NoLaying):
                    laying_text(stones, thing)
        for thing in [[[]], [[(0, 0)]], *KINDS.values()]:
            with self.subTest(thing=thing):
                with self.assertRaises(NoLaying):
                    laying_text([], thing)

    def test_wrong_stones_are_refused_ahead_of_no_laying(self):
        for name, stones in WRONG.items():
            for thing in [[], [[(0, 0)]], [[]], [[(99, 0)]], *KINDS.values()]:
                with self.subTest(name=name, thing=thing):
                    with self.assertRaises(NoStones):
                        laying_text(stones, thing)


class ArgumentsAndLists(unittest.TestCase):
    def test_arguments_and_the_file_of_definition(self):
        for told, names in [(written, ["stones"]), (read, ["text"]), (laying_text, ["stones", "thing"])]:
            with self.subTest(told=told.__name__):
                self.assertEqual(list(inspect.signature(told).parameters), names)
                self.assertEqual(told.__module__, "stonerow.notes")

    def test_what_is_handed_in_stays_as_it_was_and_is_not_kept(self):
        for stones in GOOD.values():
            with self.subTest(stones=stones):
                handed, laying = list(stones), laid(stones)
                shown = copy.deepcopy(laying)
                text = written(handed)
                laying_text(handed, shown)
                self.assertEqual((handed, shown), (stones, laying))
                handed.append((1, 2))
                handed.reverse()
                self.assertEqual(written(stones), text)


if __name__ == "__main__":
    unittest.main()
