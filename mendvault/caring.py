"""Care: volumes are opened and mended time and again."""

from mendvault.harms import harmed
from mendvault.opening import opened


def cared(volumes):
    """The volumes as they are mended, if anything is read of them, and what was found."""
    found = opened(volumes)
    if found.epoch is None:
        return tuple([tuple(volume) for volume in volumes]), found
    return found.mended(), found


def cared_for(vault, rounds):
    """What was found in the vault's volumes, round by round: harms befall them, then they are mended."""
    out = []
    volumes = vault.volumes()
    for harms in rounds:
        volumes, found = cared(harmed(volumes, harms))
        out.append(found)
    return tuple(out)
