"""What a stone is, what stones are, and how a stone lies."""

from stonerow.errors import NoStones

HIGHEST_END = 999999
MOST_STONES = 60


def is_end(thing):
    """Tell whether a thing may be the end of a stone."""
    # Python counts True and False among the integers; they are no numbers here.
    if isinstance(thing, bool) or not isinstance(thing, int):
        return False
    return 0 <= thing <= HIGHEST_END


def is_stone(thing):
    """Tell whether a thing is a stone."""
    return isinstance(thing, tuple) and len(thing) == 2 and is_end(thing[0]) and is_end(thing[1])


def are_stones(thing):
    """Tell whether a thing is a list of stones, and not of too many."""
    if not isinstance(thing, list) or len(thing) > MOST_STONES:
        return False
    return all([is_stone(stone) for stone in thing])


def need_stones(thing):
    """Refuse whatever is no list of stones."""
    if not are_stones(thing):
        raise NoStones("this is no list of at most 60 stones")


def lying(stone, turned):
    """Tell the two numbers of a stone as it lies, from left to right."""
    first, second = stone
    return (second, first) if turned else (first, second)
