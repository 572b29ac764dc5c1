"""The limits of the document, and how arguments are held to them."""

from mendvault.errors import BadValue

# A layout has at least 1 and at most this many volumes that bear signs.
MOST_DATA = 6

# It has at most this many volumes more, that bear parity.
MOST_PARITY = 4

# The highest number of an epoch, a stripe, a transaction.
HIGHEST = 16383

# The most signs of a name or a label, and of a content.
LONGEST_NAME = 8
MOST_CONTENT = 400

# The most edits and signs of a transaction that a vault commits.
MOST_EDITS = 40
MOST_SIGNS = 3000

# The most names and labels of a state.
MOST_NAMES = 24
MOST_LABELS = 8


def check_ranges(ranges):
    """Of tuples (at, value, lowest, highest), BadValue(at) of the first value that is out of its range."""
    for at, value, lowest, highest in ranges:
        if not lowest <= value <= highest:
            raise BadValue(at)
