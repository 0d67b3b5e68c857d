"""Writing stones and layings as text, and reading stones from it."""

from stonerow.checking import is_laying
from stonerow.errors import NoLaying, NoText
from stonerow.stones import HIGHEST_END, MOST_STONES, need_stones, row

FIGURES = "0123456789"


def written(stones):
    """Write stones as text."""
    need_stones(stones)
    return _line(stones)


def read(text):
    """Read stones from text."""
    if not isinstance(text, str):
        raise NoText("stones are read from a text")
    # Splitting the empty text would give one empty word, but it stands for no stones.
    if text == "":
        return []
    words = text.split(" ")
    if len(words) > MOST_STONES:
        raise NoText("these are more than 60 stones")
    return [_stone(word) for word in words]


def laying_text(stones, thing):
    """Write a laying of the stones as text."""
    if not is_laying(stones, thing):
        raise NoLaying("this is no laying of the stones")
    return " | ".join([_line(row(stones, chain)) for chain in thing])


def _line(stones):
    """Write stones beside each other."""
    return " ".join([f"{first}-{second}" for first, second in stones])


def _stone(word):
    """Read one stone."""
    numerals = word.split("-")
    if len(numerals) != 2 or not all([_is_numeral(numeral) for numeral in numerals]):
        raise NoText("a stone is written as two numbers with one - between")
    return (int(numerals[0]), int(numerals[1]))


def _is_numeral(text):
    """Tell whether a text is a number as stones have it, written without noughts ahead."""
    if not 1 <= len(text) <= len(str(HIGHEST_END)):
        return False
    if not all([sign in FIGURES for sign in text]):
        return False
    return text == "0" or text[0] != "0"
