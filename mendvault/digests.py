"""Digests: of texts, of rows of texts as the root of a tree, of histories."""

from mendvault.figures import figures_of
from mendvault.limits import check_ranges
from mendvault.records import edit_text, transaction_text
from mendvault.signs import symbols_of
from mendvault.states import base_edits

# What digests begin with, and how they are stepped on: they stay below the prime 2 ** 61 - 1.
BEGINNING = 7
FACTOR = 263
BOUND = 2305843009213693951


def digest(text):
    """The digest of the text."""
    number = BEGINNING
    for symbol in symbols_of(text):
        number = (number * FACTOR + symbol + 1) % BOUND
    return number


def leaf_digest(text):
    """The digest of a text as one of a row of texts."""
    return digest("L" + text)


def node_digest(one, other):
    """The digest of two neighbours."""
    return digest("N" + figures_of(one) + " " + figures_of(other))


def level_above(level):
    """What becomes of a level: its neighbours two by two, and the last one if it has no partner."""
    nodes = [node_digest(level[at], level[at + 1]) for at in range(0, len(level) - 1, 2)]
    return nodes + level[2 * len(nodes):]


def root(texts):
    """The one digest to which those of the texts lead."""
    if len(texts) == 0:
        return digest("E")
    level = [leaf_digest(text) for text in texts]
    while len(level) > 1:
        level = level_above(level)
    return level[0]


def way(texts, at):
    """The partners of the text with this number, from below: pairs (side, number)."""
    check_ranges(((1, at, 0, len(texts) - 1),))
    out = []
    level = [leaf_digest(text) for text in texts]
    place = at
    while len(level) > 1:
        if place % 2 == 1:
            out.append((0, level[place - 1]))
        elif place + 1 < len(level):
            out.append((1, level[place + 1]))
        level = level_above(level)
        place = place // 2
    return tuple(out)


def state_leaves(state):
    """The texts of the edits that make the state."""
    return [edit_text(edit) for edit in base_edits(state)]


def state_digest(state):
    """The root of the state's leaves."""
    return root(state_leaves(state))


def history(transactions):
    """The digests of the histories of no transaction, the first one, the first two, and so on."""
    out = [digest("H")]
    for told in text_digests(transactions):
        out.append(grown_digest(out[-1], told))
    return tuple(out)


def text_digests(transactions):
    """The digests of the transactions' texts."""
    return [digest(transaction_text(number, edits)) for number, edits in enumerate(transactions)]


def grown_digest(elder, told):
    """The digest of a history behind the one of this digest, from the digest of the next transaction's text."""
    return digest("C" + figures_of(elder) + " " + figures_of(told))
