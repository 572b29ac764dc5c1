"""Finding the blocks in a piece, and what lies between them."""

from mendvault.blocks import MARK, SIZE, read_block


def found(piece):
    """The pairs (place, block) of the blocks in the piece, from the left."""
    out = []
    place = 0
    while place < len(piece):
        block = None
        if piece[place] == MARK:
            block = read_block(piece[place:place + SIZE])
        if block is None:
            place = place + 1
        else:
            out.append((place, block))
            place = place + SIZE
    return tuple(out)


def gaps(piece):
    """The pairs (begin, end) of the runs that are in no block found."""
    return runs_between(found(piece), len(piece))


def runs_between(pairs, many):
    """The runs of a piece of so many integers that are in none of the blocks of these pairs."""
    out = []
    begin = 0
    for place, _ in pairs:
        if begin < place:
            out.append((begin, place))
        begin = place + SIZE
    if begin < many:
        out.append((begin, many))
    return tuple(out)
