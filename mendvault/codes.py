"""Codes: words are the values of a polynomial of at most k coefficients at the points 0, 1, .. k + r - 1."""

from mendvault.errors import Beyond
from mendvault.field import added, over, times
from mendvault.polys import poly_added, poly_divided, poly_through, poly_times, poly_value


def encoded(data, r):
    """The word that begins with the row data and has r symbols more."""
    k = len(data)
    poly = poly_through(list(enumerate(data)))
    return tuple(data) + values_at(poly, k, k + r)


def filled(symbols, k):
    """The word that has all the symbols given; None stands for a lost one."""
    points = given(symbols)
    if len(points) < k:
        raise Beyond("lost")
    word = values_at(poly_through(points[:k]), 0, len(symbols))
    if len(unlike(points, word)) > 0:
        raise Beyond("parted")
    return word


def corrected(symbols, k):
    """The word that is unlike few enough of the symbols given, and the places of these few."""
    points = given(symbols)
    if len(points) < k:
        raise Beyond("lost")
    poly = nearest(points, k)
    word = values_at(poly, 0, len(symbols))
    changed = unlike(points, word)
    if len(poly) > k or len(changed) > (len(points) - k) // 2:
        raise Beyond("far")
    return word, changed


def given(symbols):
    """The pairs (place, symbol) of the symbols that are not lost."""
    return [(at, symbol) for at, symbol in enumerate(symbols) if symbol is not None]


def values_at(poly, begin, end):
    """The values of the polynomial at the points from begin to end - 1."""
    return tuple([poly_value(poly, x) for x in range(begin, end)])


def unlike(points, word):
    """The places of those points that the word does not go through."""
    return tuple([at for at, symbol in points if word[at] != symbol])


def nearest(points, k):
    """The polynomial f of the word near enough to the points; any polynomial if there is none.

    This is Gao's way. Let e be the polynomial that is 0 at the changed places alone. Then e * f
    and e * (the polynomial through all points) have the same rest by the polynomial that is 0
    at all places. Euclid's algorithm on these two polynomials, stopped halfway, comes upon e * f
    and e, both multiplied or divided by one and the same polynomial: f is their quotient.
    """
    elder = (1,)
    for at, _ in points:
        elder = poly_times(elder, (at, 1))
    rest = poly_through(points)
    elder_factor = ()
    factor = (1,)
    # Halfway: twice the degree of the rest is below the number of the points and k together.
    while 2 * (len(rest) - 1) >= len(points) + k:
        quotient, left = poly_divided(elder, rest)
        elder, rest = rest, left
        elder_factor, factor = factor, poly_added(elder_factor, poly_times(quotient, factor))
    poly, _ = poly_divided(rest, factor)
    return poly


def weights(places, x):
    """What the symbols at these k places are multiplied by so that their sum is the word's symbol at x.

    These are the values at x of the polynomials that are 1 at one of the places and 0 at the others.
    """
    out = []
    for place in places:
        share = 1
        for other in places:
            if other != place:
                share = times(share, over(added(x, other), added(place, other)))
        out.append(share)
    return tuple(out)
