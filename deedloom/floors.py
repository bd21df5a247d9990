"""Floors: numbers of beats that each laying has at least."""

from deedloom.deeds import sort_of
from deedloom.laying import gap


def floor_of(deeds, units):
    """The greatest floor that a chain or a load shows, with what shows it."""
    chain = longest_chain(deeds)
    floor = (len(chain), ("chain", chain))
    sorts = [sort_of(deed) for deed in deeds]
    for sort, most in enumerate(units):
        load = (sorts.count(sort) + most - 1) // most
        # Only a greater load counts, since a chain is told where both show the floor.
        if load > floor[0]:
            floor = (load, ("load", sort))
    return floor


def longest_chain(deeds):
    """As many places as can be, each of which must come in a later beat than the one ahead of it."""
    longest = []
    chains = []
    for k in range(len(deeds)):
        ahead = [chains[j] for j in range(k) if gap(deeds, j, k) == 1]
        chain = max(ahead, key=len, default=[]) + [k]
        chains.append(chain)
        if len(chain) > len(longest):
            longest = chain
    return longest
