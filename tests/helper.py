"""What the tests reckon on their own, straight from the document, to hold the program against."""

import itertools
import random

# All pairs of k and r that the document lets.
SIZES = [(k, r) for k in range(1, 17) for r in range(17 - k)]


def bit_times(a, b):
    """The product of two symbols, bit by bit."""
    product = 0
    for bit in range(7):
        if b >> bit & 1:
            product ^= a << bit
    for bit in range(6, -1, -1):
        if product >> (bit + 7) & 1:
            product ^= 131 << bit
    return product


# Reckoned once, as the tests ask for very many of them.
PRODUCTS = [[bit_times(a, b) for b in range(128)] for a in range(128)]


def slow_times(a, b):
    return PRODUCTS[a][b]


def slow_power(a, n):
    product = 1
    for _ in range(n):
        product = slow_times(product, a)
    return product


def slow_inverse(a):
    return PRODUCTS[a].index(1)


def slow_value(p, x):
    """The value of a polynomial, power by power."""
    value = 0
    for i, coefficient in enumerate(p):
        value ^= slow_times(coefficient, slow_power(x, i))
    return value


def slow_word(p, many):
    return tuple(slow_value(p, x) for x in range(many))


def slow_near(symbols, k, most):
    """All words unlike at most `most` of the symbols given, each with the places: every k of them are tried."""
    places = [at for at, symbol in enumerate(symbols) if symbol is not None]
    near = {}
    for some in itertools.combinations(places, k):
        word = slow_through([(at, symbols[at]) for at in some], len(symbols))
        changed = tuple(at for at in places if word[at] != symbols[at])
        if len(changed) <= most:
            near[word] = changed
    return sorted(near.items())


def slow_through(points, many):
    """The values at 0 .. many - 1 of the polynomial through the points, by Lagrange's sum."""
    row = []
    for at in range(many):
        value = 0
        for x, y in points:
            part = y
            for other, _ in points:
                if other != x:
                    part = slow_times(part, slow_times(at ^ other, slow_inverse(x ^ other)))
            value ^= part
        row.append(value)
    return tuple(row)


def some_row(random_source, many):
    return tuple(random_source.randrange(128) for _ in range(many))


def some_polynomial(random_source, many):
    """A row of at most this many symbols, without a 0 at its end."""
    row = some_row(random_source, random_source.randrange(many + 1))
    while row and row[-1] == 0:
        row = row[:-1]
    return row


def some_word(random_source, k, r):
    return slow_word(some_row(random_source, k), k + r)


def without(word, places):
    """The word with the symbols at these places lost."""
    return tuple(None if at in places else symbol for at, symbol in enumerate(word))


def changed_at(word, places, random_source):
    """The word with another symbol at each of these places."""
    return tuple(
        symbol ^ random_source.randrange(1, 128) if at in places else symbol for at, symbol in enumerate(word)
    )


def fixed_random(seed):
    return random.Random(seed)
