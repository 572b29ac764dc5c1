"""A plain model of digests and papers, straight from the document, to hold the program against."""

BOUND = 2 ** 61 - 1


def model_digest(text):
    """The digest as a sum of powers of 263."""
    numbers = [7] + [ord(sign) + 1 for sign in text]
    return sum(number * 263 ** (len(text) - at) for at, number in enumerate(numbers)) % BOUND


def model_leaf(text):
    return model_digest("L" + text)


def model_node(one, other):
    return model_digest(f"N{one} {other}")


def left_part(many):
    """How many of so many texts, at least two, stand below the left one of the last two numbers."""
    return 2 ** ((many - 1).bit_length() - 1)


def model_root(texts):
    """The root, from above: a whole tree to the left, what is left over to the right."""
    if len(texts) < 2:
        return model_leaf(texts[0]) if texts else model_digest("E")
    cut = left_part(len(texts))
    return model_node(model_root(texts[:cut]), model_root(texts[cut:]))


def model_way(texts, at):
    """The partners on the way up, from above."""
    if len(texts) == 1:
        return ()
    cut = left_part(len(texts))
    if at < cut:
        return model_way(texts[:cut], at) + ((1, model_root(texts[cut:])),)
    return model_way(texts[cut:], at - cut) + ((0, model_root(texts[:cut])),)


def model_sides(at, many):
    """The sides of the partners of number at of so many, from below."""
    sides = []
    while many > 1:
        cut = left_part(many)
        sides.append(1 if at < cut else 0)
        at, many = (at, cut) if at < cut else (at - cut, many - cut)
    return sides[::-1]


def model_climbed(text, sides, partners):
    """The root to which the text leads by partners at these sides."""
    number = model_leaf(text)
    for side, partner in zip(sides, partners):
        number = model_node(number, partner) if side else model_node(partner, number)
    return number


def belongs_text(at, many, leaf, partners):
    """A paper that tells that a leaf belongs to a state."""
    return f"belongs {at} {many}\n{leaf}by{''.join(f' {partner}' for partner in partners)}\n"


def grown_text(many, digests):
    """A paper that tells that a history has grown."""
    return f"grown {many}\n" + "".join(f"{digest}\n" for digest in digests)
