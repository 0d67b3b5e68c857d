"""The groups of stones that hang together, and how many chains they take."""

from stonerow.stones import need_stones


def groups(stones):
    """List the groups by their first places, each as the rising list of its places."""
    need_stones(stones)
    labels = _labels(stones)
    found = {}
    # A dict keeps the order of its keys, so going by places puts the groups by their first ones.
    for place, stone in enumerate(stones):
        found.setdefault(labels[stone[0]], []).append(place)
    return list(found.values())


def _labels(stones):
    """Give each number a label; two numbers have the same one if their stones hang together."""
    labels = {}
    for first, second in stones:
        old = labels.setdefault(first, first)
        new = labels.setdefault(second, second)
        if old != new:
            labels = {number: new if label == old else label for number, label in labels.items()}
    return labels


def odd_ends(stones, group):
    """List the numbers that stand an odd number of times among the ends at these places."""
    need_stones(stones)
    times = {}
    for place in group:
        # No stone stands at a place outside the list; an index below 0 would still find one.
        if 0 <= place < len(stones):
            for number in stones[place]:
                times[number] = times.get(number, 0) + 1
    return [number for number in sorted(times) if times[number] % 2 == 1]


def why(stones):
    """List each group with its odd ends, the groups in their order."""
    return [(group, odd_ends(stones, group)) for group in groups(stones)]


def fewest(stones):
    """Tell how many chains it takes to lay the stones."""
    return sum([_chains_for(odd) for group, odd in why(stones)])


def _chains_for(odd):
    """Tell how many chains a group with these odd ends takes."""
    # Each chain that does not close uses up two odd ends; without any, one chain goes around.
    return max(1, len(odd) // 2)
