"""Lines of 60 calls of all twenty kinds mixed, compared with a desk made of searches through all possibilities."""

import random
import unittest

from tests.helper import (
    ADD, BEST, BRIDGE, CHANGE, CHECK, CUTS, EXTRA, FOUND, HEIGHTS, HOME, LEAST, MAP, PACKS, ROUND, SHARE, STREET,
    TOTAL, WALK,
    Model, ask, full_town, map_call, random_town,
)

# More streets than that are too many for the searches.
MOST_STREETS = 7


class Source:
    """Calls by chance: most of them fit the model's map, some do not."""

    def __init__(self, seed):
        self.random = random.Random(seed)

    def off(self, number, least, most):
        """The number, or seldom another one: just out of its range, or at the range's ends."""
        if self.random.random() < 0.03:
            return self.random.choice((least - 1, most + 1, least, most))
        return number

    def place(self, model):
        places = model.town[0] if model.town else 3
        return self.off(self.random.randrange(places), 0, 6)

    def number(self, model):
        streets = len(model.town[1]) if model.town else 3
        return self.off(self.random.randrange(max(1, streets)), 0, 15)

    def length_and_often(self):
        return self.off(self.random.randint(1, 5), 1, 1000), self.off(self.random.randint(1, 3), 1, 3)

    def map_call(self):
        places = self.random.randint(1, 4)
        kind, places, row = map_call(random_town(self.random, places, self.random.randint(0, 5), 5))
        if self.random.random() < 0.2:
            row = row[:-self.random.choice((1, 4))]
        if row and self.random.random() < 0.2:
            at = self.random.randrange(len(row))
            row[at] = self.random.choice((-1, 0, 4, 6, 7))
        return (MAP, self.off(places, 1, 7), row)

    def row_of(self, kind, model):
        if kind == PACKS:
            told = [part for cut in range(self.random.randint(0, 3))
                    for part in (self.random.randrange(17), self.random.randint(0, 6))]
            return told if self.random.random() < 0.7 else model.answer((CUTS,))[2:]
        if kind == ROUND and self.random.random() < 0.5:
            return model.answer((WALK, 0))[2:]
        most = self.random.choice((0, 2, 4, 8))
        return [self.number(model) for at in range(most)]

    def call(self, kind, model):
        if kind == MAP:
            return self.map_call()
        if kind in (CHECK, PACKS):
            return (kind, self.row_of(kind, model))
        if kind == ROUND:
            return (kind, self.place(model), self.row_of(kind, model))
        if kind == SHARE:
            return (kind, self.place(model), self.off(self.random.randint(3, 30), 0, 100000))
        if kind == LEAST:
            return (kind, self.off(self.random.randrange(16), 0, 127))
        if kind == HOME:
            first = self.random.randint(0, 40)
            last = first + self.random.choice((-1, 0, 0, 1, 2, 5, 9))
            return (kind, self.place(model), self.off(first, 0, 100000), self.off(last, 0, 100000))
        if kind == FOUND:
            return (kind, self.place(model), self.off(self.random.randint(0, 40), 0, 100000))
        if kind == BEST:
            return (kind, self.place(model), self.off(self.random.choice((0, 5, 40, 60)), 0, 200))
        if kind == STREET:
            return (kind, self.number(model))
        if kind == CHANGE:
            return (kind, self.number(model)) + self.length_and_often()
        if kind == ADD:
            return (kind, self.place(model), self.place(model)) + self.length_and_often()
        if kind == WALK:
            return (kind, self.place(model))
        return (kind,)

    def next_kind(self, model, maps, homes):
        kind = self.random.randrange(20)
        if self.random.random() < homes or kind == MAP and self.random.random() > maps:
            return HOME
        if kind == ADD and model.town and len(model.town[1]) >= MOST_STREETS:
            return CHANGE
        return kind


def random_line(seed, maps, homes):
    """A line of 60 calls, and what the model answers; maps and homes tell how often a new one comes."""
    source = Source(seed)
    model = Model()
    calls, wanted = [], []
    while len(calls) < 60:
        early = not model.town and source.random.random() < 0.6
        call = source.call(MAP if early else source.next_kind(model, maps, homes), model)
        calls.append(call)
        wanted.append(model.answer(call))
    return calls, wanted


class LinesTest(unittest.TestCase):
    def test_lines_of_sixty_calls(self):
        answered, refused = {}, {}
        for seed in range(150):
            calls, wanted = random_line(seed, *((0.5, 0.0), (0.1, 0.1), (0.0, 0.3))[seed % 3])
            for at, (call, want, got) in enumerate(zip(calls, wanted, ask(*calls))):
                self.assertEqual(got, want, (calls[:at], call))
                if want[0] == 0:
                    answered[call[0]] = answered.get(call[0], 0) + 1
                else:
                    refused[want[0]] = refused.get(want[0], 0) + 1
        # The lines are worth little where one kind of call is never answered, or one refusal never due.
        self.assertEqual(sorted(answered), list(range(20)))
        self.assertGreater(min(answered.values()), 50, answered)
        self.assertEqual(sorted(refused), [-6, -5, -4, -3, -2, -1])
        self.assertGreater(min(refused.values()), 5, refused)

    def test_each_kind_of_call_behind_each_other(self):
        source = Source(81)
        for first in range(20):
            for second in range(0, 20, 10):
                model = Model()
                calls = [map_call(BRIDGE), (HOME, 1, 3, 3), (HOME, 2, 9, 12)]
                wanted = [model.answer(call) for call in calls]
                for kind in range(second, second + 10):
                    for call in (source.call(first, model), source.call(kind, model)):
                        if call[0] != ADD or len(model.town[1]) < MOST_STREETS:
                            calls.append(call)
                            wanted.append(model.answer(call))
                self.assertEqual(ask(*calls), wanted, calls)

    def test_a_line_on_the_largest_map_keeps_the_promises(self):
        town = full_town(82)
        source = random.Random(83)
        calls = [map_call(town)]
        for at in range(9):
            calls += [(CHANGE, source.randrange(16), source.randint(1, 1000), source.randint(1, 3)), (EXTRA,),
                      (CUTS,), (TOTAL,), (WALK, source.randrange(7)), (HEIGHTS,)]
        out = ask(*calls)
        for at in range(1, len(calls), 6):
            extra, cuts, total, walk, heights = out[at + 1:at + 6]
            self.assertEqual(cuts[1], 2 * extra[1])
            self.assertEqual(total[2], total[1] + extra[1])
            self.assertEqual(walk[1], total[2])
            self.assertEqual(len(heights), 24)
            self.assertEqual(heights[1], 0)
