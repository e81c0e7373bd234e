"""Choices of streets: which set of places they suit, how short they can be, which of them comes first."""

from streetroundsdesk.maps import odd_ends

ALL_SETS = 128


def odd_set(streets):
    """The odd places, as a set: for all streets, each as often as it must be walked."""
    odd = 0
    for street in streets:
        if street.often % 2 == 1:
            odd = odd ^ odd_ends(street)
    return odd


def suited_set(streets, taken):
    """The set that the choices suit which take these streets (each is there once)."""
    odd = 0
    for i in taken:
        odd = odd ^ odd_ends(streets[i])
    return odd


def lesser(left, taken, length):
    """The least of leaving a street and of taking it; None stands for what cannot be."""
    if taken is None:
        return left
    if left is None:
        return taken + length
    return min(left, taken + length)


def with_street(street, leasts):
    """The least for every set, if this street may be taken beside those that the leasts are of."""
    flips = odd_ends(street)
    return [lesser(leasts[u], leasts[u ^ flips], street.length) for u in range(ALL_SETS)]


def leasts_by_street(streets):
    """For each street, and behind the last one: the least for every set by choices of it and those behind it."""
    behind = [0] + [None] * (ALL_SETS - 1)
    rows = [behind]
    for street in reversed(streets):
        behind = with_street(street, behind)
        rows.append(behind)
    rows.reverse()
    return rows


def leasts_of(streets):
    """The least for every set, None where no choices suit it."""
    return leasts_by_street(streets)[0]


def first_least(streets, wanted):
    """Of the choices that suit the wanted set and take the least length the first: the streets taken, rising."""
    rows = leasts_by_street(streets)
    taken = []
    for i, street in enumerate(streets):
        # The first choices leave a street wherever the ones behind it can make up the least without it.
        if rows[i + 1][wanted] != rows[i][wanted]:
            taken.append(i)
            wanted = wanted ^ odd_ends(street)
    return taken


def walked_once_more(streets):
    """The streets walked once more, rising."""
    return first_least(streets, odd_set(streets))
