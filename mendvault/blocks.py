"""Blocks: 48 integers each, of which every one tells what it is, so that it can be found anywhere."""

from mendvault.errors import BadValue
from mendvault.limits import HIGHEST, MOST_DATA, MOST_PARITY, check_ranges
from mendvault.sums import sum_row, summed

# It stands at the beginning of each block, and is no symbol.
MARK = 128

# How many integers a block has.
SIZE = 48

# How many symbols of a block are its payload.
PAYLOAD = 31

# Where the payload begins, and where the sum behind it does.
PAYLOAD_AT = 13
SUM_AT = 44


class Block:
    """One block, held to the ranges of its values."""

    def __init__(self, volume, k, r, epoch, stripe, used, last, number, payload):
        # k and r go ahead, as the range of the volume hangs on them.
        check_ranges((
            (1, k, 1, MOST_DATA),
            (2, r, 0, MOST_PARITY),
            (0, volume, 0, k + r - 1),
            (3, epoch, 0, HIGHEST),
            (4, stripe, 0, HIGHEST),
            (5, used, 1, PAYLOAD * k),
            (6, last, 0, 1),
            (7, number, 0, HIGHEST),
        ))
        if len(payload) != PAYLOAD or not are_symbols(payload):
            raise BadValue(8)
        self.volume = volume
        self.k = k
        self.r = r
        self.epoch = epoch
        self.stripe = stripe
        self.used = used
        self.last = last
        self.number = number
        self.payload = tuple(payload)

    def row(self):
        """Its 48 integers."""
        head = (self.volume, self.k, self.r) + halves(self.epoch) + halves(self.stripe) + halves(self.used)
        symbols = head + (self.last,) + halves(self.number) + self.payload
        return (MARK,) + symbols + sum_row(summed(symbols))

    def __eq__(self, other):
        return isinstance(other, Block) and self.row() == other.row()


def are_symbols(row):
    """Whether all integers of a row, of which there is at least one, are symbols."""
    return min(row) >= 0 and max(row) < MARK


def halves(number):
    """The two symbols of a number."""
    return number // 128, number % 128


def read_block(row):
    """The block whose row this is, or None if it is none's."""
    if len(row) != SIZE or row[0] != MARK or not are_symbols(row[1:]):
        return None
    if tuple(row[SUM_AT:]) != sum_row(summed(row[1:SUM_AT])):
        return None
    epoch = row[4] * 128 + row[5]
    stripe = row[6] * 128 + row[7]
    used = row[8] * 128 + row[9]
    number = row[11] * 128 + row[12]
    try:
        return Block(row[1], row[2], row[3], epoch, stripe, used, row[10], number, row[PAYLOAD_AT:SUM_AT])
    except BadValue:
        return None
