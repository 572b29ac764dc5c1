"""Papers: texts from which others can tell what is true of states and histories by their digests alone."""

from mendvault.digests import state_digest, state_leaves, text_digests, way
from mendvault.errors import NothingThere
from mendvault.limits import check_ranges


def belongs_paper(state, name):
    """Tells that the state has the name with its content."""
    state.text(name)
    leaves = state_leaves(state)
    # The puts of the state itself are the last leaves, one for each name.
    names = state.names()
    at = len(leaves) - len(names) + names.index(name)
    partners = "".join([f" {number}" for _, number in way(leaves, at)])
    return f"belongs {at} {len(leaves)}\n{leaves[at]}by{partners}\n"


def grown_paper(transactions, many):
    """Tells that these transactions are the first ones, so many, and others behind them."""
    check_ranges(((1, many, 0, len(transactions)),))
    lines = [f"{told}\n" for told in text_digests(transactions)[many:]]
    return f"grown {many}\n" + "".join(lines)


def same_paper(vault, other):
    """Tells that two vaults have the same state."""
    if vault.state() != other.state():
        raise NothingThere("state")
    return f"same {state_digest(vault.state())}\n"
