"""The nine refusals."""

import unittest

from stonerow import errors
from stonerow.errors import (
    Full, NoChain, NoDeed, NoFit, NoLaying, NoSide, NoStone, NoStones, NoText, StoneError,
)

REFUSALS = [NoStones, NoStone, NoLaying, NoChain, NoSide, NoFit, NoDeed, Full, NoText]


class Refusals(unittest.TestCase):
    def test_each_is_a_stone_error_and_a_value_error(self):
        for refusal in REFUSALS:
            with self.subTest(refusal=refusal.__name__):
                self.assertEqual(refusal.__bases__, (StoneError,))
                self.assertIsInstance(refusal("x"), StoneError)
                self.assertIsInstance(refusal("x"), ValueError)
        self.assertEqual(StoneError.__bases__, (ValueError,))

    def test_none_is_another_one(self):
        for refusal in REFUSALS:
            for other in REFUSALS:
                with self.subTest(refusal=refusal.__name__, other=other.__name__):
                    self.assertEqual(isinstance(refusal("x"), other), refusal is other)

    def test_each_is_made_of_a_text(self):
        for refusal in [StoneError, *REFUSALS]:
            for text in ["", "x", "no such chain: 7"]:
                with self.subTest(refusal=refusal.__name__, text=text):
                    self.assertEqual(str(refusal(text)), text)

    def test_each_is_caught_as_itself_and_as_a_stone_error(self):
        for refusal in REFUSALS:
            for caught in [refusal, StoneError, ValueError]:
                with self.subTest(refusal=refusal.__name__, caught=caught.__name__):
                    with self.assertRaises(caught):
                        raise refusal("x")

    def test_the_file_defines_just_these(self):
        defined = sorted(name for name in vars(errors) if isinstance(vars(errors)[name], type))
        self.assertEqual(defined, sorted(["StoneError", *(r.__name__ for r in REFUSALS)]))
        for name in defined:
            self.assertEqual(vars(errors)[name].__module__, "stonerow.errors")


if __name__ == "__main__":
    unittest.main()
