"""The refusals of the program."""


class StoneError(ValueError):
    """Any refusal."""


class NoStones(StoneError):
    """What was handed in is no list of stones."""


class NoStone(StoneError):
    """What was handed in is no stone."""


class NoLaying(StoneError):
    """What was handed in is no laying of the stones."""


class NoChain(StoneError):
    """No chain has this number."""


class NoSide(StoneError):
    """What was handed in is no side of a chain."""


class NoFit(StoneError):
    """The stone fits neither as it is nor turned."""


class NoDeed(StoneError):
    """No stone lies that could be taken back."""


class Full(StoneError):
    """As many stones lie as may."""


class NoText(StoneError):
    """The text is not the text of stones."""
