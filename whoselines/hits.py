"""Sets of a few indexes, as the bits of a number, that share one with each of several others."""


def hitting(many, masks):
    """Return, ascending, all masks of so many bits that share a bit with each of some masks."""
    missed = [False] * (1 << many)
    for mask in masks:
        missed[mask] = True
    # What holds one of the masks is marked as well, bit by bit: a set beside it shares nothing with that mask.
    for bit in range(many):
        for mask in range(1 << many):
            if mask >> bit & 1 and missed[mask ^ (1 << bit)]:
                missed[mask] = True
    full = (1 << many) - 1
    return [mask for mask in range(1 << many) if not missed[full ^ mask]]


def least_hitting(many, masks):
    """Return, ascending, the masks of hitting(many, masks) that hold no other one of them."""
    found = hitting(many, masks)
    known = {mask: True for mask in found}
    return [mask for mask in found if not any([mask ^ (1 << bit) in known for bit in indexes(mask)])]


def indexes(mask):
    """Return the ascending tuple of the indexes of the bits of a mask."""
    return tuple([bit for bit in range(mask.bit_length()) if mask >> bit & 1])
