"""Damage within the bound of promise [14], dealt at random."""


def damaged(random_source, piece, share=0.5):
    """The piece with damage within the bound, and the rows of its blocks that are left untouched.

    A torn block at the end of the piece is taken for damage of its own. The share of the damages
    is the greater the more of them there are.
    """
    rows = [piece[at:at + 48] for at in range(0, len(piece), 48)]
    torn = rows.pop() if rows and len(rows[-1]) < 48 else ()
    left, untouched, at = (), [], 0
    # The last whole block stays as it is if a torn one stands behind it.
    end = len(rows) - 1 if torn else len(rows)
    while at < len(rows):
        if at >= end or random_source.random() > share:
            left += rows[at]
            untouched.append(rows[at])
            at += 1
            continue
        many = random_source.randint(1, min(4, end - at))
        part, many = harm(random_source, sum(rows[at:at + many], ()), many)
        left += part
        at += many
        if at < len(rows):
            left += rows[at]
            untouched.append(rows[at])
            at += 1
    return left + torn, untouched


def harm(random_source, part, many):
    """What one damage leaves of this part of so many blocks, and how many of these it touches."""
    kind = random_source.choice(("change", "begin", "end", "within"))
    if kind == "change":
        return changed(random_source, part[:48]), 1
    if kind == "within":
        one, other = sorted(random_source.sample(range(49), 2))
        return part[:one] + part[other:48], 1
    cut = random_source.randint(48 * many - 47, 48 * many)
    return (part[cut:], many) if kind == "begin" else (part[:len(part) - cut], many)


def changed(random_source, row):
    """The row with one to four integers side by side changed, at least one of them to another one."""
    many = random_source.randint(1, 4)
    at = random_source.randrange(len(row) - many + 1)
    while True:
        integers = tuple(random_source.choice((0, 128, random_source.randrange(129))) for _ in range(many))
        if integers != row[at:at + many]:
            return row[:at] + integers + row[at + many:]
