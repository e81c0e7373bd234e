"""What the tests share: lines of calls, maps, searches through all possibilities, and a desk made of these.

The searches keep to the document's words and use nothing of the program but its one function.
"""

import functools
import heapq
import itertools
import random

from streetroundsdesk.rounds import answers

(MAP, ODD, EXTRA, CHECK, CUTS, PACKS, WALK, ROUND, SHARE, LEAST,
 HEIGHTS, HOME, HOMES, FOUND, BEST, STREET, CHANGE, ADD, TOTAL, SIZES) = range(20)


def flat(call):
    """A call (its number, its whole numbers, its row as a list if it has one) as it stands in the one list."""
    out = []
    for part in call:
        if isinstance(part, list):
            out.append(len(part))
            out.extend(part)
        else:
            out.append(part)
    return out


def line(calls):
    return [number for call in calls for number in flat(call)]


def parted(given):
    """The one list of answers, parted by the counts ahead of each."""
    out = []
    at = 0
    while at < len(given):
        out.append(given[at + 1:at + 1 + given[at]])
        assert len(out[-1]) == given[at]
        at += 1 + given[at]
    return out


def ask(*calls):
    """The answers of these calls in one line, parted."""
    assert 1 <= len(calls) <= 60, len(calls)
    out = parted(answers(line(calls)))
    assert len(out) == len(calls), (calls, out)
    return out


def map_call(town):
    places, streets = town
    return (MAP, places, [number for street in streets for number in street])


def ask_on(town, *calls):
    """The answers of these calls on the map."""
    out = ask(map_call(town), *calls)
    assert out[0] == [0, len(town[1])], out[0]
    return out[1:]


def come_to(start, streets):
    found = {start}
    todo = [start]
    while todo:
        here = todo.pop()
        for street in streets:
            for a, b in ((street[0], street[1]), (street[1], street[0])):
                if a == here and b not in found:
                    found.add(b)
                    todo.append(b)
    return found


def random_town(source, places, streets, longest=9, most_often=3):
    """A map with so many places and at least so many streets as join them."""
    out = []
    for place in range(1, places):
        ends = [place, source.randrange(place)]
        source.shuffle(ends)
        out.append(ends)
    while len(out) < streets:
        out.append([source.randrange(places), source.randrange(places)])
    source.shuffle(out)
    return places, [(a, b, source.randint(1, longest), source.randint(1, most_often)) for a, b in out]


def small_towns(seed, count, most_places=4, most_streets=6, longest=4, most_often=3):
    source = random.Random(seed)
    for at in range(count):
        places = source.randint(1, most_places)
        yield random_town(source, places, source.randint(0, most_streets), longest, most_often)


def changed_towns(seed, count, most_places=4, most_streets=4, longest=4, most_calls=4):
    """Maps, some calls of change and add for each, and the map that it is then."""
    source = random.Random(seed)
    for town in small_towns(seed, count, most_places, most_streets, longest):
        places, streets = town[0], list(town[1])
        calls = []
        for at in range(source.randint(1, most_calls)):
            told = (source.randint(1, longest), source.randint(1, 3))
            i = source.randrange(len(streets) + 1)
            if i < len(streets):
                calls.append((CHANGE, i) + told)
                streets[i] = streets[i][:2] + told
            else:
                street = (source.randrange(places), source.randrange(places)) + told
                calls.append((ADD,) + street)
                streets.append(street)
        yield town, calls, (places, streets)


def number_of(places):
    return sum(2 ** place for place in places)


def members(number):
    return {place for place in range(number.bit_length()) if number // 2 ** place % 2 == 1}


def odd_for(streets, times):
    """The set of places at which an odd number of ends meet."""
    ends = {}
    for street, often in zip(streets, times):
        for end in street[:2]:
            ends[end] = ends.get(end, 0) + often
    return {place for place in ends if ends[place] % 2 == 1}


def odd_of(town):
    return odd_for(town[1], [street[3] for street in town[1]])


def all_choices(streets):
    """All choices, the first one first, each with its length and the set that it suits."""
    for taken in itertools.product((0, 1), repeat=len(streets)):
        length = sum(street[2] for street, take in zip(streets, taken) if take)
        yield taken, length, odd_for(streets, taken)


def best_by_set(streets):
    """For each set that choices suit, by its number: the least length, and the first choices that have it."""
    best = {}
    for taken, length, suited in all_choices(streets):
        key = number_of(suited)
        if key not in best or length < best[key][0]:
            best[key] = (length, [i for i, take in enumerate(taken) if take])
    return best


def least_by_set(streets):
    """For each set that choices suit, by its number: the least length of all of them; fit for 16 streets."""
    choices = [(0, 0)]
    for a, b, length, often in streets:
        flips = 2 ** a ^ 2 ** b
        choices += [(number ^ flips, together + length) for number, together in choices]
    best = {}
    for number, together in choices:
        best[number] = min(together, best.get(number, together))
    return best


def accepted(town, cuts):
    places, streets = town
    for number, weight in cuts:
        if number >= 2 ** places or len(members(number) & odd_of(town)) % 2 == 0:
            return False
    for a, b, length, often in streets:
        across = [weight for number, weight in cuts if (a in members(number)) != (b in members(number))]
        if sum(across) > 2 * length:
            return False
    return True


def heights_and_peaks(town):
    places, streets = town
    odd = odd_of(town)
    whole = least_by_set(streets)
    base = whole[number_of(odd)]

    def climb(best, place):
        key = number_of(odd ^ ({0} ^ {place}))
        return 2 * (best[key] - base) if key in best else None

    heights = [climb(whole, place) for place in range(places)]
    peaks = []
    for i, (a, b, length, often) in enumerate(streets):
        without = least_by_set(streets[:i] + streets[i + 1:])
        up, down = climb(without, a), climb(without, b)
        if up is None:
            peaks.append(2 * length + down)
        elif down is None:
            peaks.append(2 * length + up)
        else:
            half, rest = divmod(2 * length + up + down, 2)
            assert rest == 0
            peaks.append(min(2 * length + up, 2 * length + down, half))
    return heights, peaks


def told_cuts(town):
    """The told cuts by the document's words, as a list of pairs."""
    places, streets = town
    heights, peaks = heights_and_peaks(town)
    levels = sorted(set(heights + [peak for peak, street in zip(peaks, streets) if street[0] != street[1]]))
    cuts = []
    for at in range(len(levels) - 1):
        low = [street for street, peak in zip(streets, peaks) if peak <= levels[at]]
        groups = []
        for place in range(places):
            if heights[place] <= levels[at]:
                group = come_to(place, low)
                if group not in groups:
                    groups.append(group)
        for group in groups:
            if 0 not in group:
                cuts.append((number_of(group), levels[at + 1] - levels[at]))
    together = {}
    for number, weight in cuts:
        together[number] = together.get(number, 0) + weight
    return list(together.items())


def least_round(town, begin):
    """The least length of any round from the place, by a search through all states of a walk."""
    streets = town[1]
    start = (begin, tuple(street[3] for street in streets))
    known = {start: 0}
    todo = [(0,) + start]
    while todo:
        length, place, missing = heapq.heappop(todo)
        if known[(place, missing)] < length:
            continue
        if place == begin and not any(missing):
            return length
        for i, street in enumerate(streets):
            if place in street[:2]:
                behind = street[0] + street[1] - place
                less = missing[:i] + (max(0, missing[i] - 1),) + missing[i + 1:]
                longer = length + street[2]
                if longer < known.get((behind, less), longer + 1):
                    known[(behind, less)] = longer
                    heapq.heappush(todo, (longer, behind, less))
    return None


def first_walk(town, begin, times):
    """The first of all rows of streets, each so many times, that can be walked from the place and back to it."""
    streets = town[1]

    @functools.lru_cache(maxsize=None)
    def search(place, times):
        if not any(times):
            return [] if place == begin else None
        for i, street in enumerate(streets):
            if times[i] and place in street[:2]:
                less = times[:i] + (times[i] - 1,) + times[i + 1:]
                rest = search(street[0] + street[1] - place, less)
                if rest is not None:
                    return [i] + rest
        return None

    return search(begin, tuple(times))


def is_round(town, begin, row):
    place = begin
    for i in row:
        if place not in town[1][i][:2]:
            return False
        place = town[1][i][0] + town[1][i][1] - place
    return place == begin and all(row.count(i) >= street[3] for i, street in enumerate(town[1]))


def passed_by(town, begin, walk):
    """Each place that the walk passes, and how much later than it begins."""
    out = [(begin, 0)]
    for i in walk:
        a, b, length, often = town[1][i]
        place, later = out[-1]
        out.append((a + b - place, later + length))
    return out


def found_by(town, homes, begin, walk, start):
    """The homes (each its place, from, to) found by the walk begun at the start, rising."""
    times = [(place, start + later) for place, later in passed_by(town, begin, walk)]
    return [number for number, (at, first, last) in enumerate(homes)
            if any(place == at and first <= time <= last for place, time in times)]


PLACE, NUMBER, LENGTH, OFTEN, TIME = (0, 6), (0, 15), (1, 1000), (1, 3), (0, 100000)
RANGES = {
    MAP: [(1, 7)], WALK: [PLACE], ROUND: [PLACE], SHARE: [PLACE, TIME], LEAST: [(0, 127)], HOME: [PLACE, TIME, TIME],
    FOUND: [PLACE, TIME], BEST: [PLACE, (0, 200)], STREET: [NUMBER], CHANGE: [NUMBER, LENGTH, OFTEN],
    ADD: [PLACE, PLACE, LENGTH, OFTEN],
}
# How long a row may be, and the ranges of what stands in it for each one told.
ROWS = {MAP: (64, [PLACE, PLACE, LENGTH, OFTEN]), CHECK: (16, [NUMBER]), PACKS: (60, [(0, 1000000)] * 2),
        ROUND: (80, [NUMBER])}


def out_of_range(call):
    kind = call[0]
    numbers = list(call[1:])
    ranges = list(RANGES.get(kind, []))
    if kind in ROWS:
        most, group = ROWS[kind]
        row = numbers.pop()
        if len(row) > most or len(row) % len(group):
            return True
        numbers += row
        ranges += group * (len(row) // len(group))
    assert len(numbers) == len(ranges), call
    if kind == HOME and call[3] < call[2]:
        return True
    return any(number not in range(least, most + 1) for number, (least, most) in zip(numbers, ranges))


class Model:
    """A desk by the document's words, which finds all it tells by searches through all possibilities."""

    def __init__(self):
        self.town = None
        self.homes = []

    def answer(self, call):
        due = self.refusals(call)
        return [max(due)] if due else [0] + self.told(*call)

    def refusals(self, call):
        kind = call[0]
        if out_of_range(call):
            return [-1]
        if self.town is None and kind not in (MAP, SIZES):
            return [-2]
        places, streets = (call[1], towns_streets(call[2])) if kind == MAP else self.town or (0, [])
        due = []
        named = {MAP: [end for street in streets for end in street[:2]], ADD: call[1:3]}
        if kind in (MAP, WALK, ROUND, SHARE, HOME, FOUND, BEST, ADD):
            due += [-3 for place in named.get(kind, call[1:2]) if place >= places]
        if kind in (CHECK, ROUND, STREET, CHANGE):
            due += [-3 for i in (call[-1] if kind in ROWS else call[1:2]) if i >= len(streets)]
        due += [-3] * (kind == LEAST and call[1] >= 2 ** places)
        due += [-4] * (kind == ADD and len(streets) == 16 or kind == HOME and len(self.homes) == 12)
        due += [-5] * (kind == MAP and not set(range(places)) <= come_to(0, streets))
        due += [-6] * (kind == SHARE and any(street[2] > call[2] for street in streets))
        return due

    def told(self, kind, *given):
        if kind == MAP:
            self.town = (given[0], towns_streets(given[1]))
            self.homes = []
            return [len(self.town[1])]
        if kind == SIZES:
            return [self.town[0], len(self.town[1]), len(self.homes)] if self.town else [0, 0, 0]
        if kind in (HOME, HOMES, STREET, CHANGE, ADD):
            return self.kept(kind, *given)
        if kind in (WALK, ROUND, SHARE, FOUND, BEST, TOTAL):
            return self.walked(kind, *given)
        return self.chosen(kind, *given)

    def kept(self, kind, *given):
        streets = self.town[1]
        if kind == HOME:
            self.homes.append(given)
            return [len(self.homes) - 1]
        if kind == HOMES:
            return [number for home in self.homes for number in home]
        if kind == STREET:
            return list(streets[given[0]])
        if kind == CHANGE:
            streets[given[0]] = streets[given[0]][:2] + given[1:]
            return []
        streets.append(given)
        return [len(streets) - 1]

    def chosen(self, kind, *given):
        streets = self.town[1]
        odd = odd_of(self.town)
        if kind == ODD:
            return sorted(odd)
        if kind == EXTRA:
            length, taken = best_by_set(streets)[number_of(odd)]
            return [length] + taken
        if kind == CHECK:
            taken = [int(i in given[0]) for i in range(len(streets))]
            return [int(odd_for(streets, taken) == odd), sum(streets[i][2] for i in set(given[0]))]
        if kind == LEAST:
            best = best_by_set(streets)
            return [1, best[given[0]][0]] if given[0] in best else [0]
        if kind == HEIGHTS:
            heights, peaks = heights_and_peaks(self.town)
            return heights + peaks
        cuts = told_cuts(self.town) if kind == CUTS else list(zip(given[0][0::2], given[0][1::2]))
        weight = sum(weight for number, weight in cuts)
        if kind == CUTS:
            return [weight] + [part for cut in cuts for part in cut]
        return [int(accepted(self.town, cuts)), weight]

    def walk(self, begin):
        streets = self.town[1]
        taken = best_by_set(streets)[number_of(odd_of(self.town))][1]
        return first_walk(self.town, begin, [street[3] + (i in taken) for i, street in enumerate(streets)])

    def walked(self, kind, *given):
        streets = self.town[1]
        if kind == ROUND:
            return [int(is_round(self.town, *given)), sum(streets[i][2] for i in given[1])]
        begin = given[0] if given else 0
        walk = self.walk(begin)
        if kind == WALK:
            return [sum(streets[i][2] for i in walk)] + walk
        if kind == TOTAL:
            return [sum(street[2] * street[3] for street in streets), sum(streets[i][2] for i in walk)]
        if kind == FOUND:
            return found_by(self.town, self.homes, begin, walk, given[1])
        if kind == BEST:
            many = [len(found_by(self.town, self.homes, begin, walk, start)) for start in range(given[1] + 1)]
            return [many.index(max(many)), max(many)]
        shares = []
        for i in walk:
            if not shares or sum(shares[-1]) + streets[i][2] > given[1]:
                shares.append([])
            shares[-1].append(streets[i][2])
        return [len(shares)] + [number for share in shares for number in (len(share), sum(share))]


def towns_streets(row):
    return [tuple(row[at:at + 4]) for at in range(0, len(row), 4)]


ALONE = (1, [])
ONE_STREET = (2, [(0, 1, 5, 1)])
SQUARE = (4, [(0, 1, 1, 1), (1, 2, 1, 1), (2, 3, 1, 1), (3, 0, 1, 1)])
# Two ways of the same least length from 0 to 2, which are the odd places: by 1, or by 3.
TWIN_WAYS = (4, [(0, 1, 2, 2), (0, 3, 1, 2), (1, 2, 1, 2), (3, 2, 2, 2), (2, 0, 9, 1)])
# Street 1 alone leads to place 2, street 2 leads from place 2 to itself.
BRIDGE = (3, [(0, 1, 3, 1), (1, 2, 4, 1), (2, 2, 7, 1), (1, 0, 2, 1)])


def full_town(seed=7):
    """7 places and 16 streets."""
    return random_town(random.Random(seed), 7, 16, 1000)
