"""Laying stones in the fewest chains."""

from stonerow.groups import why
from stonerow.stones import lies


def laid(stones):
    """Lay the stones in the fewest chains; only a group without odd ends is laid to close."""
    # The explanation comes first, since it refuses whatever is no list of stones.
    explained = why(stones)
    free = _places_by_number(stones)
    laying = []
    for group, odd in explained:
        starts = odd or [stones[group[0]][0]]
        laying.extend(_group_laid(stones, free, starts))
    return laying


def _places_by_number(stones):
    """List for each number the places of the stones that have it, a double's place twice."""
    free = {}
    for place, stone in enumerate(stones):
        for number in stone:
            free.setdefault(number, []).append(place)
    return free


def _group_laid(stones, free, starts):
    """Lay all free stones of a group in chains that begin or end at the starts."""
    # A loop that is let in comes back to where it left only if no odd ends are left,
    # so every chain is walked before the first one is filled.
    walks = _walks(stones, free, starts)
    return [_filled(stones, free, walk) for walk in walks]


def _walks(stones, free, starts):
    """Walk from each start at which no earlier walk has ended."""
    walks = []
    ended = []
    for number in starts:
        if number not in ended:
            walk = _walk(stones, free, number)
            ended.append(lies(stones, walk[-1])[1])
            walks.append(walk)
    return walks


def _walk(stones, free, number):
    """Take free stones, each fitting the one before, from a number on until none fits."""
    walk = []
    while free[number]:
        step = _taken(stones, free, number)
        walk.append(step)
        number = lies(stones, step)[1]
    return walk


def _taken(stones, free, number):
    """Take the first free stone that has the number, and lay it with the number first."""
    place = free[number][0]
    stone = stones[place]
    for end in stone:
        free[end].remove(place)
    return (place, 0 if stone[0] == number else 1)


def _filled(stones, free, walk):
    """Let in, wherever the walk comes by, the free stones that lead back to there."""
    chain = list(walk)
    at = 0
    # Nothing is let in behind the last stone: a walk ends only where no stone is free.
    while at < len(chain):
        number = lies(stones, chain[at])[0]
        chain[at:at] = _walk(stones, free, number)
        at += 1
    return chain
