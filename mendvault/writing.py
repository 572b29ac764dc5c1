"""What writes do to volumes, up to any moment of them."""

from mendvault.blocks import SIZE
from mendvault.limits import check_ranges


def played(writes, many, part):
    """The volumes when the first writes, so many, were done, and of the next block the first integers."""
    check_ranges(((1, many, 0, len(writes)),))
    check_ranges(((2, part, 0, SIZE - 1 if many < len(writes) else 0),))
    volumes = [[] for _ in range(max([write[1] + 1 for write in writes], default=0))]
    for write in writes[:many]:
        do_write(volumes, write)
    if many < len(writes):
        word, volume, row = writes[many]
        if word == "block":
            do_write(volumes, (word, volume, row[:part]))
    return tuple([tuple(volume) for volume in volumes])


def do_write(volumes, write):
    """Does the write to the volumes, a list of lists; a block makes its volume if it is not there."""
    word, volume, what = write
    if word == "block":
        while len(volumes) <= volume:
            volumes.append([])
        volumes[volume].extend(what)
    elif volume < len(volumes):
        volumes[volume] = volumes[volume][what:]
