"""What each call answers. Refusals are asked for in their order, so that the one nearest to 0 is answered."""

from streetroundsdesk.choices import leasts_of, odd_set, suited_set, walked_once_more
from streetroundsdesk.cuts import heights_of, is_accepted, pairs_from, peaks_of, told_cuts
from streetroundsdesk.homes import MOST_HOMES, Home, best_start, found_homes, passed_places
from streetroundsdesk.maps import MOST_STREETS, Street, all_places, length_together, places_in, reached, streets_from
from streetroundsdesk.refusals import NOT_JOINED, NO_MAP, NO_ROOM, NO_SUCH, OUT_OF_RANGE, TOO_LONG, refused
from streetroundsdesk.shapes import is_within
from streetroundsdesk.walks import is_round, shares_of, told_walk

# The calls for which there need be no map: map and sizes.
WITHOUT_MAP = (0, 19)


def yes_or_no(holds):
    """1 if it holds, else 0."""
    return 1 if holds else 0


def all_below(row, bound):
    """Whether all numbers of the row are below the bound."""
    return all([number < bound for number in row])


def answer_map(desk, call):
    """Sets up the map."""
    places = call.numbers[0]
    streets = streets_from(call.row)
    for street in streets:
        if street.near >= places or street.far >= places:
            return refused(NO_SUCH)
    if reached(0, streets) != all_places(places):
        return refused(NOT_JOINED)
    desk.places = places
    desk.streets = streets
    desk.homes = []
    return [0, len(streets)]


def answer_odd(desk, call):
    """The odd places."""
    return [0] + places_in(odd_set(desk.streets))


def answer_extra(desk, call):
    """The streets walked once more, their length before them."""
    taken = walked_once_more(desk.streets)
    return [0, length_together(desk.streets, taken)] + taken


def answer_check(desk, call):
    """Whether the streets taken suit the odd places."""
    if not all_below(call.row, len(desk.streets)):
        return refused(NO_SUCH)
    taken = sorted(set(call.row))
    suits = suited_set(desk.streets, taken) == odd_set(desk.streets)
    return [0, yes_or_no(suits), length_together(desk.streets, taken)]


def answer_cuts(desk, call):
    """The told cuts, all their weights together before them."""
    weights = told_cuts(desk.streets, desk.places)
    answer = [0, sum(weights.values())]
    for places, weight in weights.items():
        answer.extend([places, weight])
    return answer


def answer_packs(desk, call):
    """Whether the cuts handed in are accepted."""
    pairs = pairs_from(call.row)
    good = is_accepted(desk.streets, desk.places, pairs)
    return [0, yes_or_no(good), sum([pair[1] for pair in pairs])]


def answer_walk(desk, call):
    """The told walk, its length before it."""
    if call.numbers[0] >= desk.places:
        return refused(NO_SUCH)
    walk = told_walk(desk.streets, call.numbers[0])
    return [0, length_together(desk.streets, walk)] + walk


def answer_round(desk, call):
    """Whether the row of streets is a round."""
    if call.numbers[0] >= desk.places or not all_below(call.row, len(desk.streets)):
        return refused(NO_SUCH)
    good = is_round(desk.streets, call.numbers[0], call.row)
    return [0, yes_or_no(good), length_together(desk.streets, call.row)]


def answer_share(desk, call):
    """The told walk shared among walkers."""
    place = call.numbers[0]
    hours = call.numbers[1]
    if place >= desk.places:
        return refused(NO_SUCH)
    if any([street.length > hours for street in desk.streets]):
        return refused(TOO_LONG)
    shares = shares_of(desk.streets, told_walk(desk.streets, place), hours)
    answer = [0, len(shares)]
    for share in shares:
        answer.extend(share)
    return answer


def answer_least(desk, call):
    """The least for a set of places."""
    wanted = call.numbers[0]
    if wanted > all_places(desk.places):
        return refused(NO_SUCH)
    least = leasts_of(desk.streets)[wanted]
    if least is None:
        return [0, 0]
    return [0, 1, least]


def answer_heights(desk, call):
    """The heights of all places, the peaks of all streets."""
    return [0] + heights_of(desk.streets, desk.places) + peaks_of(desk.streets)


def answer_home(desk, call):
    """Adds a home."""
    place = call.numbers[0]
    if place >= desk.places:
        return refused(NO_SUCH)
    if len(desk.homes) >= MOST_HOMES:
        return refused(NO_ROOM)
    desk.homes.append(Home(place, call.numbers[1], call.numbers[2]))
    return [0, len(desk.homes) - 1]


def answer_homes(desk, call):
    """All homes."""
    answer = [0]
    for home in desk.homes:
        answer.extend([home.place, home.begin, home.finish])
    return answer


def passed_from(desk, place):
    """What the told walk from the place passes."""
    return passed_places(desk.streets, told_walk(desk.streets, place), place)


def answer_found(desk, call):
    """The homes found by the told walk."""
    place = call.numbers[0]
    if place >= desk.places:
        return refused(NO_SUCH)
    return [0] + found_homes(desk.homes, passed_from(desk, place), call.numbers[1])


def answer_best(desk, call):
    """When the told walk finds the most homes, and how many."""
    place = call.numbers[0]
    if place >= desk.places:
        return refused(NO_SUCH)
    return [0] + best_start(desk.homes, passed_from(desk, place), call.numbers[1])


def answer_street(desk, call):
    """A street as it was told, or as it was changed."""
    if call.numbers[0] >= len(desk.streets):
        return refused(NO_SUCH)
    street = desk.streets[call.numbers[0]]
    return [0, street.near, street.far, street.length, street.often]


def answer_change(desk, call):
    """Gives a street another length, and how often it must be walked."""
    if call.numbers[0] >= len(desk.streets):
        return refused(NO_SUCH)
    street = desk.streets[call.numbers[0]]
    street.length = call.numbers[1]
    street.often = call.numbers[2]
    return [0]


def answer_add(desk, call):
    """Adds a street."""
    near = call.numbers[0]
    far = call.numbers[1]
    if near >= desk.places or far >= desk.places:
        return refused(NO_SUCH)
    if len(desk.streets) >= MOST_STREETS:
        return refused(NO_ROOM)
    desk.streets.append(Street(near, far, call.numbers[2], call.numbers[3]))
    return [0, len(desk.streets) - 1]


def answer_total(desk, call):
    """How long all streets are as often as they must be walked, and how long the told walk is."""
    must = sum([street.length * street.often for street in desk.streets])
    # From every place the told walk has the same streets, so it is as long from place 0 as from any other.
    return [0, must, length_together(desk.streets, told_walk(desk.streets, 0))]


def answer_sizes(desk, call):
    """How many places, streets and homes there are."""
    return [0, desk.places, len(desk.streets), len(desk.homes)]


ANSWERERS = (
    answer_map,
    answer_odd,
    answer_extra,
    answer_check,
    answer_cuts,
    answer_packs,
    answer_walk,
    answer_round,
    answer_share,
    answer_least,
    answer_heights,
    answer_home,
    answer_homes,
    answer_found,
    answer_best,
    answer_street,
    answer_change,
    answer_add,
    answer_total,
    answer_sizes,
)


def answer_call(desk, call):
    """The answer of one call, which may change the desk."""
    if not is_within(call):
        return refused(OUT_OF_RANGE)
    if call.number not in WITHOUT_MAP and desk.places == 0:
        return refused(NO_MAP)
    return ANSWERERS[call.number](desk, call)
