"""Harms: what befalls volumes."""

from mendvault.blocks import MARK
from mendvault.errors import BadValue

# The most integers that one harm changes.
MOST_CHANGED = 4


def harmed(volumes, harms):
    """The volumes when the harms befell them, one behind the other."""
    out = [tuple(volume) for volume in volumes]
    for at, harm in enumerate(harms):
        act = ACTS[harm[0]]
        out = act(out, harm, at)
    return tuple(out)


def lose(volumes, harm, at):
    _, volume = harm
    check_there(volumes, volume, at)
    return with_row(volumes, volume, ())


def change(volumes, harm, at):
    _, volume, place, integers = harm
    check_there(volumes, volume, at)
    check(1 <= len(integers) <= MOST_CHANGED and min(integers) >= 0 and max(integers) <= MARK, at)
    check(place >= 0, at)
    row = volumes[volume]
    changed = row[:place] + tuple(integers) + row[place + len(integers):]
    # What would stand behind the volume's end is not written.
    return with_row(volumes, volume, changed[:len(row)])


def cut(volumes, harm, at):
    _, volume, begin, end = harm
    check_there(volumes, volume, at)
    check(0 <= begin <= end, at)
    row = volumes[volume]
    return with_row(volumes, volume, row[:begin] + row[end:])


def turn(volumes, harm, at):
    _, one, other = harm
    check_there(volumes, one, at)
    check_there(volumes, other, at)
    out = list(volumes)
    out[one] = volumes[other]
    out[other] = volumes[one]
    return out


def double(volumes, harm, at):
    _, volume = harm
    check_there(volumes, volume, at)
    return volumes + [volumes[volume]]


def check_there(volumes, volume, at):
    """BadValue if there is no volume with this number."""
    check(0 <= volume < len(volumes), at)


def check(holds, at):
    """BadValue if something does not hold of the harm with this number."""
    if not holds:
        raise BadValue(at)


def with_row(volumes, volume, row):
    """The volumes with this row in place of the volume with this number."""
    out = list(volumes)
    out[volume] = row
    return out


# What each harm does, by its word: it makes a list of the volumes behind it.
ACTS = {
    "lose": lose,
    "change": change,
    "cut": cut,
    "turn": turn,
    "double": double,
}
