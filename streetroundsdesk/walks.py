"""Walks: what a round is, the told walk, and how it is shared."""

from streetroundsdesk.choices import walked_once_more
from streetroundsdesk.maps import ends_of, place_behind, reached, set_of


def is_round(streets, begin, row):
    """Whether the row of streets' numbers is a round from the place where it begins."""
    place = begin
    for i in row:
        if not ends_of(streets[i]) & set_of(place):
            return False
        place = place_behind(streets[i], place)
    if place != begin:
        return False
    return all([row.count(i) >= street.often for i, street in enumerate(streets)])


def times_to_walk(streets):
    """How often the told walk has each street."""
    times = [street.often for street in streets]
    for i in walked_once_more(streets):
        times[i] = times[i] + 1
    return times


def can_go_on(streets, times, place):
    """Whether from the place one comes to every street that is still to be walked so many times."""
    rest = [street for street, still in zip(streets, times) if still > 0]
    found = reached(place, rest)
    return all([found & ends_of(street) for street in rest])


def first_possible(streets, times, place):
    """The first street from the place by which the rest can still be walked, and one comes back.

    The told walk makes every place even: what is left of it always leads back to where it began, as soon as
    all of it can be come to. So that is all that is asked, and one such street is always there.
    """
    for i, street in enumerate(streets):
        if times[i] > 0 and ends_of(street) & set_of(place):
            left = times[:i] + [times[i] - 1] + times[i + 1:]
            if can_go_on(streets, left, place_behind(street, place)):
                return i
    return None


def told_walk(streets, begin):
    """The told walk from a place, as a row of streets' numbers."""
    times = times_to_walk(streets)
    place = begin
    walk = []
    while sum(times) > 0:
        i = first_possible(streets, times, place)
        times[i] = times[i] - 1
        walk.append(i)
        place = place_behind(streets[i], place)
    return walk


def shares_of(streets, walk, hours):
    """For each walker how many streets and how long together; no street may be longer than the hours."""
    shares = []
    count = 0
    length = 0
    for i in walk:
        if length + streets[i].length > hours:
            shares.append((count, length))
            count = 0
            length = 0
        count = count + 1
        length = length + streets[i].length
    if count > 0:
        shares.append((count, length))
    return shares
