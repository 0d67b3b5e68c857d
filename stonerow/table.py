"""A table on which stones are laid one by one, and taken back."""

from stonerow.errors import Full, NoChain, NoDeed, NoFit, NoSide
from stonerow.stones import MOST_STONES, is_number, lying, need_stone, row

SIDES = ("left", "right")


class Table:
    """Chains of stones that grow by deeds, each of which can be taken back, the last one first."""

    def __init__(self):
        self._stones = []
        # Each chain lists pairs (place, turned), as a laying does.
        self._chains = []
        # For each stone, the number of its chain and the side at which it was laid.
        self._deeds = []

    def begin(self, stone):
        """Lay a stone as a chain of its own and tell the chain's number."""
        need_stone(stone)
        self._need_room()
        number = len(self._chains)
        self._chains.append([])
        self._place(number, "right", stone, 0)
        return number

    def put(self, number, side, stone):
        """Lay a stone at a side of a chain, as it is if that fits, else turned."""
        need_stone(stone)
        self._need_room()
        self._need_chain(number)
        if not isinstance(side, str) or side not in SIDES:
            raise NoSide("a side is left or right")
        turned = _fitting(self.open_ends(number), side, stone)
        if turned is None:
            raise NoFit("the stone fits neither as it is nor turned")
        self._place(number, side, stone, turned)

    def back(self):
        """Take the stone that was laid last away and tell it as it was handed in."""
        if len(self._deeds) == 0:
            raise NoDeed("no stone lies")
        number, side = self._deeds.pop()
        chain = self._chains[number]
        if side == "left":
            del chain[0]
        else:
            del chain[-1]
        # Only the chain that was begun last can be empty now, so no other one's number changes.
        if len(chain) == 0:
            del self._chains[number]
        return self._stones.pop()

    def chain(self, number):
        """List the stones of a chain as they lie, from left to right."""
        self._need_chain(number)
        return row(self._stones, self._chains[number])

    def open_ends(self, number):
        """Tell the first and the last number of a chain."""
        lain = self.chain(number)
        return (lain[0][0], lain[-1][1])

    def fits(self, stone):
        """List all pairs (number, side) where the stone may be put; none where the table is full."""
        need_stone(stone)
        if self._is_full():
            return []
        found = []
        for number in range(len(self._chains)):
            ends = self.open_ends(number)
            found.extend([(number, side) for side in SIDES if _fitting(ends, side, stone) is not None])
        return found

    def chains(self):
        """Tell how many chains there are."""
        return len(self._chains)

    def stones(self):
        """List all stones as they were handed in, the first laid first."""
        return list(self._stones)

    def laying(self):
        """Tell the laying of the stones that lies there, their places being those in stones()."""
        return [list(chain) for chain in self._chains]

    def _is_full(self):
        return len(self._stones) >= MOST_STONES

    def _need_room(self):
        if self._is_full():
            raise Full("60 stones lie already")

    def _need_chain(self, number):
        if not is_number(number, len(self._chains) - 1):
            raise NoChain("no chain has this number")

    def _place(self, number, side, stone, turned):
        """Lay a stone, all being well, and note the deed."""
        chain = self._chains[number]
        chain.insert(0 if side == "left" else len(chain), (len(self._stones), turned))
        # What is handed in is not kept: this is another tuple of the same numbers.
        first, second = stone
        self._stones.append((first, second))
        self._deeds.append((number, side))


def _fitting(ends, side, stone):
    """Tell how a stone is turned to fit at a side of a chain with these open ends: 0, 1 or None."""
    for turned in (0, 1):
        first, second = lying(stone, turned)
        if side == "left" and second == ends[0]:
            return turned
        if side == "right" and first == ends[1]:
            return turned
    return None
