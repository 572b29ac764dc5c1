"""Reading: the transactions that the whole stripes of an epoch tell."""

from mendvault.errors import BadName, BadText, NoRoom, NothingThere
from mendvault.records import read_transaction
from mendvault.states import State


def read_epoch(whole):
    """The transactions that are read, the state behind them, and how many stripes they have.

    The whole stripes of the epoch are handed in by their numbers: pairs of one of the blocks and the signs.
    """
    transactions = []
    state = State()
    stripes = 0
    try:
        while stripes in whole:
            text, end = next_text(whole, stripes, len(transactions))
            number, edits = read_transaction(text)
            if number != len(transactions):
                raise BadText(0)
            state = state.grown(edits)
            transactions.append(edits)
            stripes = end
    except (BadText, BadName, NoRoom, NothingThere):
        # Nothing behind a transaction that can not be read is read either.
        return tuple(transactions), state, stripes
    return tuple(transactions), state, stripes


def next_text(whole, begin, number):
    """The text in the stripes from this one on, up to the first that is a last one, and the stripe behind it.

    BadText if one of them is not whole, not of the transaction with this number, or not of the epoch's layout.
    """
    first, _ = whole[0]
    text = ""
    stripe = begin
    last = 0
    while last == 0:
        if stripe not in whole:
            raise BadText(0)
        block, signs = whole[stripe]
        if block.number != number or (block.k, block.r) != (first.k, first.r):
            raise BadText(0)
        text = text + signs
        last = block.last
        stripe = stripe + 1
    return text, stripe
