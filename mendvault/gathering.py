"""Gathering: the blocks that are left, wherever they were found."""

from mendvault.stripes import head_of


def gathered(findings):
    """The blocks of what was found in each piece, each one once, by epochs, stripes and volumes.

    The sequence hangs on the blocks alone, so that the one of the pieces has no effect.
    """
    table = {key_of(block): block for pairs in findings for _, block in pairs}
    return [table[key] for key in sorted(table)]


def key_of(block):
    """All values of the block, those ahead by which blocks are put in sequence."""
    return block.epoch, block.stripe, block.volume, head_of(block), block.payload


def by_stripes(blocks):
    """Lists of the blocks, by the pairs (epoch, stripe)."""
    out = {}
    for block in blocks:
        out.setdefault((block.epoch, block.stripe), []).append(block)
    return out
