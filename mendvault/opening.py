"""Opening: what the blocks that are left still tell."""

from mendvault.errors import Beyond
from mendvault.finding import found, runs_between
from mendvault.gathering import by_stripes, gathered
from mendvault.reading import read_epoch
from mendvault.stripes import joined_stripe
from mendvault.vaults import resumed


class Found:
    """What is read of the epoch that is ahead, and what else there is in the pieces."""

    def __init__(self, epoch, read, stripes, parted, runs):
        transactions, state, many = read
        self.epoch = epoch
        self.layout = None if epoch is None else layout_of(stripes[(epoch, 0)])
        self.count = len(transactions)
        self.transactions = transactions
        self.state = state
        self.stripes = many
        self.missing = missing_blocks(stripes, epoch, many)
        self.beyond = other_stripes(stripes, epoch, many)
        self.parted = parted
        self.gaps = runs

    def mended(self):
        """The volumes of a vault that has just these transactions."""
        if self.epoch is None:
            return ()
        return self.vault().volumes()

    def vault(self):
        """A vault that goes on behind these transactions."""
        if self.epoch is None:
            raise Beyond("lost")
        k, r = self.layout
        return resumed(k, r, self.epoch, self.transactions)


def opened(pieces):
    """What the blocks in the pieces tell."""
    findings = [found(piece) for piece in pieces]
    stripes = by_stripes(gathered(findings))
    whole, parted = looked_through(stripes)
    epoch, read = latest(whole)
    runs = [runs_between(pairs, len(piece)) for pairs, piece in zip(findings, pieces)]
    return Found(epoch, read, stripes, parted, tuple(runs))


def looked_through(stripes):
    """Of the stripes' blocks by (epoch, stripe): the whole stripes, epoch by epoch, and where the parted ones are."""
    whole = {}
    parted = []
    for epoch, stripe in sorted(stripes):
        blocks = stripes[(epoch, stripe)]
        try:
            signs, _ = joined_stripe(blocks)
            whole.setdefault(epoch, {})[stripe] = (blocks[0], signs)
        except Beyond as error:
            if error.word == "parted":
                parted.append((epoch, stripe))
    return whole, tuple(parted)


def latest(whole):
    """The greatest epoch of which a transaction is read, or None, and what is read of it."""
    for epoch in sorted(whole, reverse=True):
        read = read_epoch(whole[epoch])
        if len(read[0]) > 0:
            return epoch, read
    return None, read_epoch({})


def layout_of(blocks):
    """The pair (k, r) of a stripe's blocks."""
    return blocks[0].k, blocks[0].r


def missing_blocks(stripes, epoch, many):
    """The pairs (stripe, volume) of the blocks of the epoch's first stripes, so many, that were not found."""
    out = []
    for stripe in range(many):
        blocks = stripes[(epoch, stripe)]
        there = [block.volume for block in blocks]
        k, r = layout_of(blocks)
        out.extend([(stripe, volume) for volume in range(k + r) if volume not in there])
    return tuple(out)


def other_stripes(stripes, epoch, many):
    """The triples (epoch, stripe, how many blocks) of all stripes but the epoch's first ones, so many."""
    places = [place for place in sorted(stripes) if place[0] != epoch or place[1] >= many]
    return tuple([(place[0], place[1], len(stripes[place])) for place in places])
