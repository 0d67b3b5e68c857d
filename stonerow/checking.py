"""Checking whether a thing is a laying, whether it is one of the fewest chains, and whether a chain closes."""

from stonerow.groups import fewest
from stonerow.stones import is_number, need_stones, row


def is_laying(stones, thing):
    """Tell of whatever thing whether it is a laying of the stones."""
    need_stones(stones)
    if not isinstance(thing, list) or not all([_is_chain(stones, chain) for chain in thing]):
        return False
    places = [step[0] for chain in thing for step in chain]
    return sorted(places) == list(range(len(stones)))


def is_fewest(stones, thing):
    """Tell of whatever thing whether it is a laying of the stones, of no more chains than it takes."""
    return is_laying(stones, thing) and len(thing) <= fewest(stones)


def closes(stones, chain):
    """Tell whether a chain closes; what is no chain does not."""
    need_stones(stones)
    if not _is_chain(stones, chain):
        return False
    lain = row(stones, chain)
    return lain[-1][1] == lain[0][0]


def _is_chain(stones, thing):
    """Tell whether a thing is a chain of some of the stones."""
    if not isinstance(thing, list) or len(thing) == 0:
        return False
    if not all([_is_step(stones, step) for step in thing]):
        return False
    lain = row(stones, thing)
    return all([left[1] == right[0] for left, right in zip(lain, lain[1:])])


def _is_step(stones, thing):
    """Tell whether a thing is a pair of a stone's place and of how it is turned."""
    if not isinstance(thing, tuple) or len(thing) != 2:
        return False
    return is_number(thing[0], len(stones) - 1) and is_number(thing[1], 1)
