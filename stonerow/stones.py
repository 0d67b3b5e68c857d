"""What a number is, what a stone is, what stones are, and how they lie."""

from stonerow.errors import NoStone, NoStones

HIGHEST_END = 999999
MOST_STONES = 60


def is_number(thing, highest):
    """Tell whether a thing is a number from 0 to the highest."""
    # Python counts True and False among the integers; they are no numbers here.
    if isinstance(thing, bool) or not isinstance(thing, int):
        return False
    return 0 <= thing <= highest


def is_stone(thing):
    """Tell whether a thing is a stone."""
    if not isinstance(thing, tuple) or len(thing) != 2:
        return False
    return is_number(thing[0], HIGHEST_END) and is_number(thing[1], HIGHEST_END)


def are_stones(thing):
    """Tell whether a thing is a list of stones, and not of too many."""
    if not isinstance(thing, list) or len(thing) > MOST_STONES:
        return False
    return all([is_stone(stone) for stone in thing])


def need_stones(thing):
    """Refuse whatever is no list of stones."""
    if not are_stones(thing):
        raise NoStones("this is no list of at most 60 stones")


def need_stone(thing):
    """Refuse whatever is no stone."""
    if not is_stone(thing):
        raise NoStone("this is no stone")


def lying(stone, turned):
    """Tell the two numbers of a stone as it lies, from left to right."""
    first, second = stone
    return (second, first) if turned else (first, second)


def lies(stones, step):
    """Tell the two numbers of the stone of a step, as it lies."""
    place, turned = step
    return lying(stones[place], turned)


def row(stones, chain):
    """List the stones of a chain as they lie, from left to right."""
    return [lies(stones, step) for step in chain]
