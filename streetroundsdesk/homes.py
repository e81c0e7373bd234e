"""Homes: who is at home when a walk passes."""

from streetroundsdesk.maps import place_behind

MOST_HOMES = 12


class Home:
    """A home: its place, and the first and the last time at which somebody is there."""

    def __init__(self, place, begin, finish):
        self.place = place
        self.begin = begin
        self.finish = finish


def passed_places(streets, walk, first):
    """What a walk from its first place passes: each place, and how much later than it begins, as pairs."""
    place = first
    later = 0
    # The first place is passed before any street is walked, so a walk without streets passes it too.
    passed = [(place, later)]
    for i in walk:
        place = place_behind(streets[i], place)
        later = later + streets[i].length
        passed.append((place, later))
    return passed


def is_found(home, passed, start):
    """Whether a walk that begins at the start passes the home while somebody is there."""
    for place, later in passed:
        if place == home.place and home.begin <= start + later and start + later <= home.finish:
            return True
    return False


def found_homes(homes, passed, start):
    """The numbers of the homes found by a walk that begins at the start, rising."""
    return [number for number, home in enumerate(homes) if is_found(home, passed, start)]


def best_start(homes, passed, last):
    """The first start from 0 to the last one at which the most homes are found, and how many that are."""
    best = 0
    most = 0
    for start in range(last + 1):
        many = len(found_homes(homes, passed, start))
        if many > most:
            best = start
            most = many
    return [best, most]
