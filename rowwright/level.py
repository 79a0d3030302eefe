"""What makes nothing, what stands level to all of a lot, and what a lot makes some multiple of."""

from rowwright.stacks import behind, tagged
from rowwright.things import upright


def idle(lot, wide):
    """The plain lot of the counts that make the row of noughts of the lot."""
    return behind(tagged(lot), wide, len(lot))


def across(lot, wide):
    """The plain lot of the rows whose product with each row of the lot is 0."""
    # Such a row, taken as counts for the upright lot, makes of it the products with all rows of the lot.
    return idle(upright(lot, wide), len(lot))


def filled(lot, wide):
    """The plain lot of the rows of which the lot makes some multiple."""
    return across(across(lot, wide), wide)
