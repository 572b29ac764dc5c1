"""Sums: rests by x ** 28 + x ** 3 + 1 over the field of two elements, by which damage to a row is told."""

from mendvault.signs import symbols_of

# All 28 bits: what the sum of no symbols is.
FULL = 268435455


def summed(row):
    """The sum of the row."""
    rest = FULL
    for symbol in row:
        rest = stepped(rest, symbol)
    return rest


def stepped(rest, symbol):
    """What the rest becomes by one symbol more."""
    # Seven steps of a bit at once: x ** 28 leaves the rest x ** 3 + 1, and seven bits
    # times this stay below x ** 28, so that none of them comes around a second time.
    above = (rest >> 21) ^ symbol
    return ((rest << 7) & FULL) ^ (above << 3) ^ above


def joined(one, other, length):
    """The sum of a row followed by another one of this length, from the sums of both."""
    # The sum of the second row begins with FULL in place of the first row's sum;
    # what these two are apart goes through its steps as if its symbols were noughts.
    apart = one ^ FULL
    for _ in range(length):
        apart = stepped(apart, 0)
    return apart ^ other


def sum_row(number):
    """The four symbols of a sum, the highest first."""
    return number >> 21, (number >> 14) & 127, (number >> 7) & 127, number & 127


def text_sum(text):
    """The sum of the row of the text's signs."""
    return summed(symbols_of(text))
