"""The field of 128 elements: symbols are polynomials over the field of two elements, modulo MODULUS."""

from mendvault.errors import BadValue

MODULUS = 131

# 2 to this power is 1 again, and 2 to no lesser power but 0 is.
ORDER = 127

# The powers of 2 from 0 to 126, modulo MODULUS: they stand here as a table because
# codes reckon so many products that doing each of them bit by bit would be slow.
POWERS = (
    1, 2, 4, 8, 16, 32, 64, 3, 6, 12, 24, 48, 96, 67, 5, 10,
    20, 40, 80, 35, 70, 15, 30, 60, 120, 115, 101, 73, 17, 34, 68, 11,
    22, 44, 88, 51, 102, 79, 29, 58, 116, 107, 85, 41, 82, 39, 78, 31,
    62, 124, 123, 117, 105, 81, 33, 66, 7, 14, 28, 56, 112, 99, 69, 9,
    18, 36, 72, 19, 38, 76, 27, 54, 108, 91, 53, 106, 87, 45, 90, 55,
    110, 95, 61, 122, 119, 109, 89, 49, 98, 71, 13, 26, 52, 104, 83, 37,
    74, 23, 46, 92, 59, 118, 111, 93, 57, 114, 103, 77, 25, 50, 100, 75,
    21, 42, 84, 43, 86, 47, 94, 63, 126, 127, 125, 121, 113, 97, 65,
)

# For each symbol the power of 2 that it is. 0 is none: its place here is never asked.
LOGARITHMS = (
    0, 0, 1, 7, 2, 14, 8, 56, 3, 63, 15, 31, 9, 90, 57, 21,
    4, 28, 64, 67, 16, 112, 32, 97, 10, 108, 91, 70, 58, 38, 22, 47,
    5, 54, 29, 19, 65, 95, 68, 45, 17, 43, 113, 115, 33, 77, 98, 117,
    11, 87, 109, 35, 92, 74, 71, 79, 59, 104, 39, 100, 23, 82, 48, 119,
    6, 126, 55, 13, 30, 62, 20, 89, 66, 27, 96, 111, 69, 107, 46, 37,
    18, 53, 44, 94, 114, 42, 116, 76, 34, 86, 78, 73, 99, 103, 118, 81,
    12, 125, 88, 61, 110, 26, 36, 106, 93, 52, 75, 41, 72, 85, 80, 102,
    60, 124, 105, 25, 40, 51, 101, 84, 24, 123, 83, 50, 49, 122, 120, 121,
)


def added(a, b):
    """The sum of two symbols (their difference, too)."""
    return a ^ b


def times(a, b):
    """The product of two symbols."""
    if a == 0 or b == 0:
        return 0
    return POWERS[(LOGARITHMS[a] + LOGARITHMS[b]) % ORDER]


def inverse(a):
    """The symbol whose product with a is 1."""
    if a == 0:
        raise BadValue(0)
    return POWERS[(ORDER - LOGARITHMS[a]) % ORDER]


def over(a, b):
    """The symbol whose product with b is a."""
    if b == 0:
        raise BadValue(1)
    return times(a, inverse(b))


def power(a, n):
    """The product of n symbols a (of none: 1)."""
    if n == 0:
        return 1
    if a == 0:
        return 0
    return POWERS[LOGARITHMS[a] * n % ORDER]


def logarithm(a):
    """The least n for which 2 to the power of n is a."""
    if a == 0:
        raise BadValue(0)
    return LOGARITHMS[a]
