"""Polynomials over the field of 128 elements: rows without a 0 at their end, the lowest coefficient first."""

from mendvault.errors import BadValue
from mendvault.field import added, over, times


def trimmed(row):
    """The row without noughts at its end."""
    end = len(row)
    while end > 0 and row[end - 1] == 0:
        end = end - 1
    return tuple(row[:end])


def poly_added(p, q):
    """The sum of two polynomials (their difference, too)."""
    both = [added(a, b) for a, b in zip(p, q)]
    # At most one of the two goes on behind the places that both have.
    return trimmed(both + list(p[len(q):]) + list(q[len(p):]))


def poly_times(p, q):
    """The product of two polynomials."""
    out = [0] * (len(p) + len(q))
    for i, a in enumerate(p):
        for j, b in enumerate(q):
            out[i + j] = added(out[i + j], times(a, b))
    return trimmed(out)


def poly_value(p, x):
    """The value of the polynomial at x."""
    value = 0
    for coefficient in reversed(p):
        value = added(times(value, x), coefficient)
    return value


def poly_divided(p, q):
    """The quotient of p by q, and the rest, which is shorter than q."""
    if len(q) == 0:
        raise BadValue(1)
    quotient = ()
    rest = tuple(p)
    while len(rest) >= len(q):
        # This part of the quotient takes the highest coefficient of the rest away.
        part = [0] * (len(rest) - len(q)) + [over(rest[-1], q[-1])]
        quotient = poly_added(quotient, part)
        rest = poly_added(rest, poly_times(part, q))
    return quotient, rest


def poly_through(points):
    """The polynomial, of no more coefficients than there are points (x, y), that has the value y at each x."""
    found = ()
    # This one is 0 at each x so far and nowhere else: what is added of it
    # leaves the values there as they are.
    nought = (1,)
    for x, y in points:
        slope = poly_value(nought, x)
        if slope == 0:
            raise BadValue(0)
        step = over(added(y, poly_value(found, x)), slope)
        found = poly_added(found, poly_times(trimmed([step]), nought))
        nought = poly_times(nought, (x, 1))
    return found
