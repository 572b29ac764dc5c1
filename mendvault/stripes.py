"""Stripes: the blocks that are written side by side, one for each volume."""

from mendvault.blocks import PAYLOAD, Block
from mendvault.codes import weights
from mendvault.errors import BadValue, Beyond
from mendvault.field import added, times
from mendvault.limits import HIGHEST, MOST_DATA, MOST_PARITY, check_ranges
from mendvault.signs import symbols_of, text_of


def striped(text, k, r, epoch, stripe, number):
    """The blocks of the text, stripe by stripe, from this stripe on."""
    if len(text) == 0:
        raise BadValue(0)
    check_ranges(((1, k, 1, MOST_DATA), (2, r, 0, MOST_PARITY), (3, epoch, 0, HIGHEST)))
    many = stripes_needed(len(text), k)
    check_ranges(((4, stripe, 0, HIGHEST + 1 - many), (5, number, 0, HIGHEST)))
    shares = [weights(list(range(k)), volume) for volume in range(k, k + r)]
    size = PAYLOAD * k
    out = []
    for at in range(many):
        signs = symbols_of(text[at * size:(at + 1) * size])
        last = 1 if at == many - 1 else 0
        rows = data_rows(signs, k)
        rows = rows + [mixed(share, rows) for share in shares]
        for volume, row in enumerate(rows):
            out.append(Block(volume, k, r, epoch, stripe + at, len(signs), last, number, row))
    return tuple(out)


def stripes_needed(signs, k):
    """How many stripes this number of signs makes."""
    return (signs + PAYLOAD * k - 1) // (PAYLOAD * k)


def data_rows(signs, k):
    """The payloads that bear the signs of a stretch."""
    full = signs + [0] * (PAYLOAD * k - len(signs))
    return [tuple(full[PAYLOAD * volume:PAYLOAD * (volume + 1)]) for volume in range(k)]


def mixed(share, rows):
    """Place by place the sum of the rows' symbols, each times what its row has in share."""
    out = [0] * PAYLOAD
    for weight, row in zip(share, rows):
        out = [added(symbol, times(weight, other)) for symbol, other in zip(out, row)]
    return tuple(out)


def joined_stripe(blocks):
    """The signs of the stripe that has these blocks, and all its blocks."""
    if len(blocks) == 0:
        raise Beyond("lost")
    first = blocks[0]
    payloads = {block.volume: block.payload for block in blocks}
    if not all([of_one_stripe(block, first) for block in blocks]) or len(payloads) < len(blocks):
        raise Beyond("parted")
    if len(blocks) < first.k:
        raise Beyond("lost")
    rows = all_rows(payloads, first.k, first.r)
    if any([rows[block.volume] != block.payload for block in blocks]):
        raise Beyond("parted")
    return signs_of(rows[:first.k], first.used), tuple([filled_in(first, at, row) for at, row in enumerate(rows)])


def of_one_stripe(block, other):
    """Whether the two are alike in all but the volume and the payload."""
    return head_of(block) == head_of(other)


def head_of(block):
    """What all blocks of a stripe have alike."""
    return block.k, block.r, block.epoch, block.stripe, block.used, block.last, block.number


def all_rows(payloads, k, r):
    """The payloads of all volumes, by the first k of those that are there."""
    places = sorted(payloads)[:k]
    rows = [payloads[place] for place in places]
    out = []
    for volume in range(k + r):
        if volume in places:
            out.append(payloads[volume])
        else:
            out.append(mixed(weights(places, volume), rows))
    return out


def signs_of(rows, used):
    """The text of the used symbols of the rows that bear signs."""
    symbols = [symbol for row in rows for symbol in row]
    text = text_of(symbols[:used])
    if text is None or any([symbol != 0 for symbol in symbols[used:]]):
        raise Beyond("parted")
    return text


def filled_in(block, volume, row):
    """The block of this volume in the stripe of the block."""
    k, r, epoch, stripe, used, last, number = head_of(block)
    return Block(volume, k, r, epoch, stripe, used, last, number, row)
