"""What the tests reckon on their own, straight from the document, to hold the program against."""

import itertools
import random

from mendvault.errors import VaultError

# All signs, by their ASCII numbers.
SIGNS = "\n" + "".join(chr(number) for number in range(32, 127) if number != 37)

# All pairs of k and r that a vault may have.
LAYOUTS = [(k, r) for k in range(1, 7) for r in range(5)]

# All pairs of k and r that the document lets.
SIZES = [(k, r) for k in range(1, 17) for r in range(17 - k)]


def bit_times(a, b):
    """The product of two symbols, bit by bit."""
    product = 0
    for bit in range(7):
        if b >> bit & 1:
            product ^= a << bit
    for bit in range(6, -1, -1):
        if product >> (bit + 7) & 1:
            product ^= 131 << bit
    return product


# Reckoned once, as the tests ask for very many of them.
PRODUCTS = [[bit_times(a, b) for b in range(128)] for a in range(128)]


def slow_times(a, b):
    return PRODUCTS[a][b]


def slow_power(a, n):
    product = 1
    for _ in range(n):
        product = slow_times(product, a)
    return product


def slow_inverse(a):
    return PRODUCTS[a].index(1)


def slow_value(p, x):
    """The value of a polynomial, power by power."""
    value = 0
    for i, coefficient in enumerate(p):
        value ^= slow_times(coefficient, slow_power(x, i))
    return value


def slow_word(p, many):
    return tuple(slow_value(p, x) for x in range(many))


def slow_near(symbols, k, most):
    """All words unlike at most `most` of the symbols given, each with the places: every k of them are tried."""
    places = [at for at, symbol in enumerate(symbols) if symbol is not None]
    near = {}
    for some in itertools.combinations(places, k):
        word = slow_through([(at, symbols[at]) for at in some], len(symbols))
        changed = tuple(at for at in places if word[at] != symbols[at])
        if len(changed) <= most:
            near[word] = changed
    return sorted(near.items())


def slow_through(points, many):
    """The values at 0 .. many - 1 of the polynomial through the points, by Lagrange's sum."""
    row = []
    for at in range(many):
        value = 0
        for x, y in points:
            part = y
            for other, _ in points:
                if other != x:
                    part = slow_times(part, slow_times(at ^ other, slow_inverse(x ^ other)))
            value ^= part
        row.append(value)
    return tuple(row)


def some_row(random_source, many):
    return tuple(random_source.randrange(128) for _ in range(many))


def some_polynomial(random_source, many):
    """A row of at most this many symbols, without a 0 at its end."""
    row = some_row(random_source, random_source.randrange(many + 1))
    while row and row[-1] == 0:
        row = row[:-1]
    return row


def some_word(random_source, k, r):
    return slow_word(some_row(random_source, k), k + r)


def without(word, places):
    """The word with the symbols at these places lost."""
    return tuple(None if at in places else symbol for at, symbol in enumerate(word))


def changed_at(word, places, random_source):
    """The word with another symbol at each of these places."""
    return tuple(
        symbol ^ random_source.randrange(1, 128) if at in places else symbol for at, symbol in enumerate(word)
    )


def fixed_random(seed):
    return random.Random(seed)


def some_text(random_source, many):
    return "".join(random_source.choice(SIGNS) for _ in range(many))


def slow_sum(row):
    """The sum of a row, by dividing the polynomial of its bits."""
    bits = [symbol >> bit & 1 for symbol in row for bit in range(6, -1, -1)] + [0] * 28
    bits[:28] = [1 - bit for bit in bits[:28]]
    for at in range(len(bits) - 28):
        if bits[at]:
            for power in (28, 3, 0):
                bits[at + 28 - power] ^= 1
    return int("".join(str(bit) for bit in bits[-28:]), 2)


def slow_sum_row(row):
    number = slow_sum(row)
    return (number // 128 ** 3, number // 128 ** 2 % 128, number // 128 % 128, number % 128)


def sealed(symbols):
    """The 48 integers with these 43 symbols between the mark and the sum."""
    return (128,) + tuple(symbols) + slow_sum_row(symbols)


def slow_row(volume, k, r, epoch, stripe, used, last, number, payload):
    """The 48 integers of a block, or what they would be of one with values that are none."""
    head = (volume, k, r, *divmod(epoch, 128), *divmod(stripe, 128), *divmod(used, 128), last, *divmod(number, 128))
    return sealed(head + tuple(payload))


def slow_striped(text, k, r, epoch, stripe, number):
    """The rows of the blocks of a text."""
    size = 31 * k
    rows = []
    for begin in range(0, len(text), size):
        signs = [ord(sign) for sign in text[begin:begin + size]]
        last = 1 if begin + size >= len(text) else 0
        full = signs + [0] * (size - len(signs))
        words = [slow_through([(v, full[31 * v + at]) for v in range(k)], k + r) for at in range(31)]
        for volume in range(k + r):
            payload = [word[volume] for word in words]
            rows.append(slow_row(volume, k, r, epoch, stripe, len(signs), last, number, payload))
        stripe += 1
    return rows


def raised(function, *arguments):
    """The name and the argument of the error that a call raises, or None if it raises none."""
    try:
        function(*arguments)
    except VaultError as error:
        return type(error).__name__, *vars(error).values()
    return None


def as_lists(value):
    """The value with a list in place of each tuple, also within."""
    return [as_lists(each) for each in value] if isinstance(value, tuple) else value


def spoiled(value):
    """Changes all lists within the value."""
    for each in value:
        if isinstance(each, list):
            spoiled(each)
    value.append(99)


def altered(row, **values):
    """The block's row with other values, sealed anew."""
    names = ("volume", "k", "r", "epoch", "stripe", "used", "last", "number", "payload")
    numbers = [128 * row[at] + row[at + 1] for at in (4, 6, 8, 11)]
    told = dict(zip(names, (*row[1:4], *numbers[:3], row[10], numbers[3], row[13:44])))
    return slow_row(*{**told, **values}.values())


def spread(rows):
    """The volumes that these rows of blocks make, one behind the other."""
    volumes = [()] * (1 + max(row[1] for row in rows))
    for row in rows:
        volumes[row[1]] += row
    return tuple(volumes)


def noise(random_source, many):
    """So many integers, marks among them."""
    return tuple(random_source.choice((128, random_source.randrange(129))) for _ in range(many))
