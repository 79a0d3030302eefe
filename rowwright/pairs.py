"""What two lots make together, what both make, and whether one makes all that the other makes."""

from rowwright.stacks import behind, plain


def together(one, other, wide):
    """The plain lot of the rows that are a row made of one and a row made of other, added."""
    return plain(one + other, wide)


def shared(one, other, wide):
    """The plain lot of the rows that are made of one and of other."""
    # Behind stands what is made of one; where noughts stand ahead, other makes the same with its sign turned.
    twice = tuple([row + row for row in one])
    once = tuple([row + (0,) * wide for row in other])
    return behind(twice + once, wide, wide)


def within(one, other, wide):
    """Whether all that is made of one is made of other."""
    return together(one, other, wide) == plain(other, wide)
