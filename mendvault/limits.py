"""The limits of the document, and how arguments are held to them."""

from mendvault.errors import BadValue

# A layout has at least 1 and at most this many volumes that bear signs.
MOST_DATA = 6

# It has at most this many volumes more, that bear parity.
MOST_PARITY = 4

# The highest number of an epoch, a stripe, a transaction.
HIGHEST = 16383


def check_ranges(ranges):
    """Of tuples (at, value, lowest, highest), BadValue(at) of the first value that is out of its range."""
    for at, value, lowest, highest in ranges:
        if not lowest <= value <= highest:
            raise BadValue(at)
