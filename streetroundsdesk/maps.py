"""Streets, and the desk that keeps the map and the homes.

A set of places is the sum of 2 to the p over its places p.
"""

MOST_PLACES = 7
MOST_STREETS = 16


class Street:
    """A street: its ends as they were told, its length, how often it must be walked."""

    def __init__(self, near, far, length, often):
        self.near = near
        self.far = far
        self.length = length
        self.often = often


class Desk:
    """What one line of calls works on. As long as there is no map, there are no places."""

    def __init__(self):
        self.places = 0
        self.streets = []
        self.homes = []


def streets_from(row):
    """The streets told by four numbers each."""
    streets = []
    for at in range(0, len(row), 4):
        streets.append(Street(row[at], row[at + 1], row[at + 2], row[at + 3]))
    return streets


def set_of(place):
    """The set of this one place."""
    return 1 << place


def all_places(places):
    """The set of all of so many places."""
    return (1 << places) - 1


def places_in(places):
    """The places of a set, rising."""
    return [place for place in range(MOST_PLACES) if places & set_of(place)]


def ends_of(street):
    """The set of the places where the street ends."""
    return set_of(street.near) | set_of(street.far)


def odd_ends(street):
    """The set of the places that are odd if just this street is taken: none if it leads to its own beginning."""
    return set_of(street.near) ^ set_of(street.far)


def place_behind(street, place):
    """The place to which the street leads from one of its ends."""
    if place == street.near:
        return street.far
    return street.near


def length_together(streets, row):
    """How long the streets of a row of streets' numbers are, each as often as it stands there."""
    return sum([streets[i].length for i in row])


def reached(place, streets):
    """The set of the places to which one comes from the place by the streets, itself among them."""
    before = 0
    found = set_of(place)
    while found != before:
        before = found
        for street in streets:
            if found & ends_of(street):
                found = found | ends_of(street)
    return found
