"""Numbers in figures."""

FIGURES = "0123456789"

# So many figures at once, as Python itself writes no number of more than 4,300.
AT_ONCE = 64
PART = 10 ** 64


def number_of(word, most):
    """The number that the word is, in at most so many figures without noughts ahead, or None if it is none."""
    if not 1 <= len(word) <= most or not all([sign in FIGURES for sign in word]):
        return None
    if word[0] == "0" and len(word) > 1:
        return None
    return int(word)


def figures_of(number):
    """The number in figures, of any size."""
    out = ""
    rest = number
    while rest >= PART:
        out = str(rest % PART).zfill(AT_ONCE) + out
        rest = rest // PART
    return str(rest) + out
