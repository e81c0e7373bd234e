"""Cuts: sets of places with weights, which prove that the streets walked once more are the least."""

from streetroundsdesk.choices import leasts_of, odd_set
from streetroundsdesk.maps import all_places, odd_ends, places_in, reached, set_of


def pairs_from(row):
    """The cuts told by two numbers each, as pairs of a set and its weight."""
    return [(row[at], row[at + 1]) for at in range(0, len(row), 2)]


def weight_across(street, pairs):
    """The weights together of the sets that hold just one of the street's ends."""
    ends = odd_ends(street)
    return sum([pair[1] for pair in pairs if len(places_in(pair[0] & ends)) == 1])


def is_accepted(streets, places, pairs):
    """Whether the cuts are accepted; a set with places that are not on the map never is."""
    odd = odd_set(streets)
    for pair in pairs:
        if pair[0] > all_places(places) or len(places_in(pair[0] & odd)) % 2 == 0:
            return False
    for street in streets:
        if weight_across(street, pairs) > 2 * street.length:
            return False
    return True


def changed(odd, place):
    """The odd places changed by 0 and the place."""
    return odd ^ set_of(0) ^ set_of(place)


def heights_of(streets, places):
    """The heights of all places."""
    odd = odd_set(streets)
    leasts = leasts_of(streets)
    return [2 * (leasts[changed(odd, place)] - leasts[odd]) for place in range(places)]


def height_from(least, base):
    """Twice the least less the base; None where there is no least."""
    if least is None:
        return None
    return 2 * (least - base)


def peak_from(length, near, far):
    """A street's peak, from its length and its ends' heights without it (one of which may be None)."""
    if near is None:
        return 2 * length + far
    if far is None:
        return 2 * length + near
    # Heights are even, so the half is whole.
    return min(2 * length + near, 2 * length + far, (2 * length + near + far) // 2)


def peaks_of(streets):
    """The peaks of all streets."""
    odd = odd_set(streets)
    base = leasts_of(streets)[odd]
    peaks = []
    for i, street in enumerate(streets):
        without = leasts_of(streets[:i] + streets[i + 1:])
        near = height_from(without[changed(odd, street.near)], base)
        far = height_from(without[changed(odd, street.far)], base)
        peaks.append(peak_from(street.length, near, far))
    return peaks


def levels_of(streets, heights, peaks):
    """All heights and the peaks of the streets between two unlike places, rising, alike ones once."""
    between = [peak for street, peak in zip(streets, peaks) if street.near != street.far]
    return sorted(set(heights + between))


def groups_at(level, streets, heights, peaks):
    """The groups at a level that place 0 is not in, by their least place."""
    low = [street for street, peak in zip(streets, peaks) if peak <= level]
    # No street's peak is below its ends' heights: by low streets one comes to places that are not higher alone.
    seen = reached(0, low)
    groups = []
    for place, height in enumerate(heights):
        if height <= level and not seen & set_of(place):
            group = reached(place, low)
            groups.append(group)
            seen = seen | group
    return groups


def told_cuts(streets, places):
    """The told cuts: each set's weight by the set, in the order in which the sets come."""
    heights = heights_of(streets, places)
    peaks = peaks_of(streets)
    levels = levels_of(streets, heights, peaks)
    weights = {}
    for level, above in zip(levels, levels[1:]):
        for group in groups_at(level, streets, heights, peaks):
            weights[group] = weights.get(group, 0) + above - level
    return weights
