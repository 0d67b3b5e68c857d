"""Stones, wrong things in their place, and checks of layings that the tests share.

The checks are written from the document alone and call nothing of the program.
"""

import random
from itertools import combinations_with_replacement, permutations, product

GOOD = {
    "no stones": [],
    "one stone": [(1, 2)],
    "one double": [(4, 4)],
    "two stones that meet": [(1, 2), (2, 3)],
    "two stones apart": [(1, 2), (3, 4)],
    "two alike": [(1, 2), (1, 2)],
    "two alike, one turned": [(1, 2), (2, 1)],
    "three alike": [(1, 2), (1, 2), (1, 2)],
    "alike doubles": [(5, 5), (5, 5), (5, 5)],
    "a double in between": [(1, 2), (2, 2), (2, 3)],
    "a double beside": [(7, 7), (1, 2)],
    "a ring": [(1, 2), (2, 3), (3, 1)],
    "a ring with doubles": [(1, 1), (1, 2), (3, 2), (3, 3), (3, 1)],
    "two rings with one number in common": [(1, 2), (2, 3), (3, 1), (1, 4), (5, 4), (5, 1)],
    "a ring on a row's end": [(1, 2), (3, 4), (2, 3), (4, 5), (5, 3)],
    "a ring behind a ring on a row": [(0, 1), (1, 2), (2, 3), (3, 2), (3, 4), (4, 3), (2, 9), (1, 9)],
    "a star of three": [(0, 1), (0, 2), (0, 3)],
    "a star of four": [(0, 1), (2, 0), (0, 3), (4, 0)],
    "each two of four": [(0, 1), (0, 2), (0, 3), (1, 2), (1, 3), (2, 3)],
    "each two of five": [(a, b) for a in range(5) for b in range(a)],
    "hanging through a third one": [(1, 2), (3, 4), (9, 9), (2, 3)],
    "groups woven together": [(5, 6), (1, 2), (6, 7), (2, 3), (7, 5), (8, 8), (3, 4)],
    "lowest and highest": [(0, 999999), (999999, 999999), (0, 0), (999999, 0), (0, 500000)],
    "domino set": [(a, b) for a in range(7) for b in range(a + 1)],
    "just 60 in a ring": [(k, (k + 1) % 60) for k in range(60)],
    "just 60 in a row, last first": [(k + 1, k) for k in range(59, -1, -1)],
    "just 60 apart": [(2 * k, 2 * k + 1) for k in range(60)],
    "just 60 doubles": [(k, k) for k in range(60)],
    "just 60 alike": [(3, 4)] * 60,
    "a star of 60": [(0, k) for k in range(1, 61)],
    "60 among three numbers": [(k % 3, k * k % 3) for k in range(60)],
    "60 in ten rings": [(6 * (k // 6) + k % 6, 6 * (k // 6) + (k + 1) % 6) for k in range(60)],
}

WRONG = {
    "None": None,
    "True": True,
    "a number": 7,
    "a text": "1-2",
    "the empty text": "",
    "bytes": b"ab",
    "a tuple of stones": ((1, 2), (2, 3)),
    "the empty tuple": (),
    "a dict of stones": {(1, 2): True},
    "the empty dict": {},
    "a set of stones": {(1, 2)},
    "a stone itself": (1, 2),
    "61 stones": [(1, 2)] * 61,
    "1000 stones": [(1, 2)] * 1000,
    "a stone that is a list": [[1, 2]],
    "a stone that is None": [None],
    "a stone that is a number": [12],
    "a stone that is a text": ["12"],
    "a stone that is a dict": [{1: 2, 3: 4}],
    "a stone that is a set": [{1, 2}],
    "a stone of no number": [()],
    "a stone of one number": [(1,)],
    "a stone of three numbers": [(1, 2, 3)],
    "a first number below 0": [(-1, 2)],
    "a second number below 0": [(2, -1)],
    "a first number too high": [(1000000, 2)],
    "a second number too high": [(2, 1000000)],
    "a very high number": [(2, 10 ** 30)],
    "True as first number": [(True, 2)],
    "True as second number": [(2, True)],
    "False as first number": [(False, 2)],
    "False as second number": [(2, False)],
    "a text for the first number": [("1", 2)],
    "a text for the second number": [(1, "2")],
    "None for a number": [(1, None)],
    "a list for a number": [(1, [2])],
    "a tuple for a number": [((1, 2), 3)],
    "a bad stone behind good ones": [(1, 2), (2, 3), (3, -4)],
    "a bad stone ahead of good ones": [[1, 2], (2, 3), (3, 4)],
}


KINDS = {
    "None": None,
    "True": True,
    "False": False,
    "0": 0,
    "7": 7,
    "-1": -1,
    "a number with a point": 0.5,
    "a text": "1-2",
    "the empty text": "",
    "bytes": b"ab",
    "the empty tuple": (),
    "a tuple": (1, 2),
    "a tuple of chains": ([(0, 0)],),
    "the empty dict": {},
    "a dict": {0: 1},
    "a set": {1, 2},
    "a range": range(2),
    "a function": len,
    "a class": list,
    "an object": object(),
    "a list of None": [None],
    "a list of numbers": [0, 1],
    "a list of texts": ["0-1"],
    "a list of dicts": [{0: 1}],
    "a list of lists of lists": [[[0, 0]]],
    "an iterator": iter([[(0, 0)]]),
}


def mixed(many=120):
    """Lists of stones drawn from a fixed seed: each run draws the same ones."""
    draw = random.Random(20261119)
    lists = []
    for _ in range(many):
        highest = draw.choice([1, 2, 4, 8, 20, 60])
        length = draw.randrange(61)
        lists.append([(draw.randint(0, highest), draw.randint(0, highest)) for _ in range(length)])
    return lists


def small(longest=4, highest=2):
    """All lists of at most so many stones with few numbers, each collection of stones once."""
    stones = list(product(range(highest + 1), repeat=2))
    for length in range(longest + 1):
        for drawn in combinations_with_replacement(stones, length):
            yield list(drawn)


def fewest_by_trial(stones):
    """The fewest chains, found by trying each order of the stones, each of them both ways."""
    if not stones:
        return 0
    best = len(stones)
    for order in permutations(stones):
        for turns in product((False, True), repeat=len(stones)):
            rows = [stone[::-1] if turn else stone for stone, turn in zip(order, turns)]
            breaks = sum(1 for left, right in zip(rows, rows[1:]) if left[1] != right[0])
            best = min(best, breaks + 1)
    return best


def as_it_lies(stones, step):
    place, turned = step
    first, second = stones[place]
    return (second, first) if turned == 1 else (first, second)


def is_closed(stones, chain):
    return as_it_lies(stones, chain[-1])[1] == as_it_lies(stones, chain[0])[0]


def assert_laying(case, stones, laying):
    """Fail the test case unless this is a laying of the stones, of just the kinds that are told."""
    case.assertIs(type(laying), list)
    places = []
    for chain in laying:
        case.assertIs(type(chain), list)
        case.assertGreater(len(chain), 0)
        for step in chain:
            case.assertIs(type(step), tuple)
            case.assertEqual(len(step), 2)
            case.assertIs(type(step[0]), int)
            case.assertIs(type(step[1]), int)
            case.assertIn(step[1], (0, 1))
            places.append(step[0])
        case.assertLessEqual({place for place, _ in chain}, set(range(len(stones))))
        for left, right in zip(chain, chain[1:]):
            case.assertEqual(as_it_lies(stones, left)[1], as_it_lies(stones, right)[0])
    case.assertEqual(sorted(places), list(range(len(stones))))


def spoil(told):
    """Change a list that was told, and all lists in it, in each way a list can be changed."""
    for part in told:
        if isinstance(part, list):
            spoil(part)
        if isinstance(part, tuple):
            for inner in part:
                if isinstance(inner, list):
                    spoil(inner)
    told.reverse()
    told.append("spoilt")
    del told[:1]
