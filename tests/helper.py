"""What the tests share: lines of calls, maps, and searches through all possibilities.

The searches keep to the document's words and use nothing of the program but its one function.
"""

import heapq
import itertools
import random

from streetroundsdesk.rounds import answers

MAP, ODD, EXTRA, CHECK, CUTS, PACKS, WALK, ROUND, SHARE, LEAST = range(10)
HAS_ROW = (MAP, CHECK, PACKS, ROUND)


def flat(call):
    """A call (its number, its whole numbers, its row as a list if it has one) as it stands in the one list."""
    out = []
    for part in call:
        if isinstance(part, list):
            out.append(len(part))
            out.extend(part)
        else:
            out.append(part)
    return out


def line(calls):
    return [number for call in calls for number in flat(call)]


def parted(given):
    """The one list of answers, parted by the counts ahead of each."""
    out = []
    at = 0
    while at < len(given):
        out.append(given[at + 1:at + 1 + given[at]])
        assert len(out[-1]) == given[at]
        at += 1 + given[at]
    return out


def ask(*calls):
    """The answers of these calls in one line, parted."""
    return parted(answers(line(calls)))


def map_call(town):
    places, streets = town
    return (MAP, places, [number for street in streets for number in street])


def ask_on(town, *calls):
    """The answers of these calls on the map."""
    out = ask(map_call(town), *calls)
    assert out[0] == [0, len(town[1])], out[0]
    return out[1:]


def come_to(start, streets):
    found = {start}
    todo = [start]
    while todo:
        here = todo.pop()
        for street in streets:
            for a, b in ((street[0], street[1]), (street[1], street[0])):
                if a == here and b not in found:
                    found.add(b)
                    todo.append(b)
    return found


def random_town(source, places, streets, longest=9, most_often=3):
    """A map with so many places and at least so many streets as join them."""
    out = []
    for place in range(1, places):
        ends = [place, source.randrange(place)]
        source.shuffle(ends)
        out.append(ends)
    while len(out) < streets:
        out.append([source.randrange(places), source.randrange(places)])
    source.shuffle(out)
    return places, [(a, b, source.randint(1, longest), source.randint(1, most_often)) for a, b in out]


def small_towns(seed, count, most_places=4, most_streets=6, longest=4, most_often=3):
    source = random.Random(seed)
    for at in range(count):
        places = source.randint(1, most_places)
        yield random_town(source, places, source.randint(0, most_streets), longest, most_often)


def number_of(places):
    return sum(2 ** place for place in places)


def members(number):
    return {place for place in range(number.bit_length()) if number // 2 ** place % 2 == 1}


def odd_for(streets, times):
    """The set of places at which an odd number of ends meet."""
    ends = {}
    for street, often in zip(streets, times):
        for end in street[:2]:
            ends[end] = ends.get(end, 0) + often
    return {place for place in ends if ends[place] % 2 == 1}


def odd_of(town):
    return odd_for(town[1], [street[3] for street in town[1]])


def all_choices(streets):
    """All choices, the first one first, each with its length and the set that it suits."""
    for taken in itertools.product((0, 1), repeat=len(streets)):
        length = sum(street[2] for street, take in zip(streets, taken) if take)
        yield taken, length, odd_for(streets, taken)


def best_by_set(streets):
    """For each set that choices suit, by its number: the least length, and the first choices that have it."""
    best = {}
    for taken, length, suited in all_choices(streets):
        key = number_of(suited)
        if key not in best or length < best[key][0]:
            best[key] = (length, [i for i, take in enumerate(taken) if take])
    return best


def accepted(town, cuts):
    places, streets = town
    for number, weight in cuts:
        if number >= 2 ** places or len(members(number) & odd_of(town)) % 2 == 0:
            return False
    for a, b, length, often in streets:
        across = [weight for number, weight in cuts if (a in members(number)) != (b in members(number))]
        if sum(across) > 2 * length:
            return False
    return True


def heights_and_peaks(town):
    places, streets = town
    odd = odd_of(town)
    whole = best_by_set(streets)
    base = whole[number_of(odd)][0]

    def climb(best, place):
        key = number_of(odd ^ ({0} ^ {place}))
        return 2 * (best[key][0] - base) if key in best else None

    heights = [climb(whole, place) for place in range(places)]
    peaks = []
    for i, (a, b, length, often) in enumerate(streets):
        without = best_by_set(streets[:i] + streets[i + 1:])
        up, down = climb(without, a), climb(without, b)
        if up is None:
            peaks.append(2 * length + down)
        elif down is None:
            peaks.append(2 * length + up)
        else:
            half, rest = divmod(2 * length + up + down, 2)
            assert rest == 0
            peaks.append(min(2 * length + up, 2 * length + down, half))
    return heights, peaks


def told_cuts(town):
    """The told cuts by the document's words, as a list of pairs."""
    places, streets = town
    heights, peaks = heights_and_peaks(town)
    levels = sorted(set(heights + [peak for peak, street in zip(peaks, streets) if street[0] != street[1]]))
    cuts = []
    for at in range(len(levels) - 1):
        low = [street for street, peak in zip(streets, peaks) if peak <= levels[at]]
        groups = []
        for place in range(places):
            if heights[place] <= levels[at]:
                group = come_to(place, low)
                if group not in groups:
                    groups.append(group)
        for group in groups:
            if 0 not in group:
                cuts.append((number_of(group), levels[at + 1] - levels[at]))
    together = {}
    for number, weight in cuts:
        together[number] = together.get(number, 0) + weight
    return list(together.items())


def least_round(town, begin):
    """The least length of any round from the place, by a search through all states of a walk."""
    streets = town[1]
    start = (begin, tuple(street[3] for street in streets))
    known = {start: 0}
    todo = [(0,) + start]
    while todo:
        length, place, missing = heapq.heappop(todo)
        if known[(place, missing)] < length:
            continue
        if place == begin and not any(missing):
            return length
        for i, street in enumerate(streets):
            if place in street[:2]:
                behind = street[0] + street[1] - place
                less = missing[:i] + (max(0, missing[i] - 1),) + missing[i + 1:]
                longer = length + street[2]
                if longer < known.get((behind, less), longer + 1):
                    known[(behind, less)] = longer
                    heapq.heappush(todo, (longer, behind, less))
    return None


def first_walk(town, begin, times):
    """The first of all rows of streets, each so many times, that can be walked from the place and back to it."""
    streets = town[1]

    def search(place, times):
        if not any(times):
            return [] if place == begin else None
        for i, street in enumerate(streets):
            if times[i] and place in street[:2]:
                less = times[:i] + (times[i] - 1,) + times[i + 1:]
                rest = search(street[0] + street[1] - place, less)
                if rest is not None:
                    return [i] + rest
        return None

    return search(begin, tuple(times))


def is_round(town, begin, row):
    place = begin
    for i in row:
        if place not in town[1][i][:2]:
            return False
        place = town[1][i][0] + town[1][i][1] - place
    return place == begin and all(row.count(i) >= street[3] for i, street in enumerate(town[1]))


ALONE = (1, [])
ONE_STREET = (2, [(0, 1, 5, 1)])
SQUARE = (4, [(0, 1, 1, 1), (1, 2, 1, 1), (2, 3, 1, 1), (3, 0, 1, 1)])
# Two ways of the same least length from 0 to 2, which are the odd places: by 1, or by 3.
TWIN_WAYS = (4, [(0, 1, 2, 2), (0, 3, 1, 2), (1, 2, 1, 2), (3, 2, 2, 2), (2, 0, 9, 1)])
# Street 1 alone leads to place 2, street 2 leads from place 2 to itself.
BRIDGE = (3, [(0, 1, 3, 1), (1, 2, 4, 1), (2, 2, 7, 1), (1, 0, 2, 1)])


def full_town(seed=7):
    """7 places and 16 streets."""
    return random_town(random.Random(seed), 7, 16, 1000)
