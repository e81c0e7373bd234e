"""The calls street, change, add, total and sizes; promises 1 and 3 behind change and add."""

import random
import unittest

from tests.helper import (
    ADD, ALONE, BEST, BRIDGE, CHANGE, CHECK, CUTS, EXTRA, FOUND, HEIGHTS, HOME, HOMES, LEAST, MAP, ODD, ONE_STREET,
    PACKS, ROUND, SHARE, SIZES, SQUARE, STREET, TOTAL, WALK,
    ask, ask_on, changed_towns, full_town, is_round, least_round, map_call, odd_for, small_towns,
)


class StreetTest(unittest.TestCase):
    def test_ends_as_they_were_told(self):
        out = ask_on((3, [(2, 0, 1, 1), (1, 2, 1000, 3), (0, 0, 7, 2)]), (STREET, 0), (STREET, 1), (STREET, 2))
        self.assertEqual(out, [[0, 2, 0, 1, 1], [0, 1, 2, 1000, 3], [0, 0, 0, 7, 2]])

    def test_sixteen_streets(self):
        town = full_town()
        self.assertEqual(ask_on(town, *[(STREET, i) for i in range(16)]), [[0] + list(street) for street in town[1]])


class ChangeTest(unittest.TestCase):
    def test_length_and_how_often_are_changed_alone(self):
        out = ask_on(BRIDGE, (CHANGE, 3, 1000, 3), (STREET, 3), (STREET, 2), (STREET, 0), (SIZES,))
        self.assertEqual(out, [[0], [0, 1, 0, 1000, 3], [0, 2, 2, 7, 1], [0, 0, 1, 3, 1], [0, 3, 4, 0]])

    def test_the_ends_of_the_ranges(self):
        out = ask_on(full_town(), (CHANGE, 15, 1, 1), (STREET, 15), (CHANGE, 15, 1000, 3), (STREET, 15))
        self.assertEqual([out[0], out[2]], [[0], [0]])
        self.assertEqual([out[1][3:], out[3][3:]], [[1, 1], [1000, 3]])

    def test_what_is_told_then(self):
        out = ask_on(ONE_STREET, (CHANGE, 0, 8, 3), (ODD,), (EXTRA,), (WALK, 0), (TOTAL,), (CHANGE, 0, 9, 2), (ODD,),
                     (EXTRA,), (WALK, 0), (TOTAL,), (CUTS,), (LEAST, 3), (CHECK, [0]), (ROUND, 0, [0, 0]),
                     (SHARE, 0, 8), (SHARE, 0, 9))
        self.assertEqual(out, [[0], [0, 0, 1], [0, 8, 0], [0, 32, 0, 0, 0, 0], [0, 24, 32], [0], [0], [0, 0],
                               [0, 18, 0, 0], [0, 18, 18], [0, 0], [0, 1, 9], [0, 0, 9], [0, 1, 18], [-6],
                               [0, 2, 1, 9, 1, 9]])

    def test_the_streets_of_one_line_are_not_those_of_another(self):
        calls = [map_call(ONE_STREET), (STREET, 0), (CHANGE, 0, 77, 3), (ADD, 1, 0, 2, 2), (STREET, 0), (SIZES,)]
        self.assertEqual(ask(*calls), ask(*calls))
        self.assertEqual(ask(*calls)[1], [0, 0, 1, 5, 1])

    def test_a_new_map_has_its_own_streets(self):
        out = ask_on(ONE_STREET, (CHANGE, 0, 77, 3), (ADD, 1, 1, 2, 2), map_call(ONE_STREET), (STREET, 0), (STREET, 1))
        self.assertEqual(out[2:], [[0, 1], [0, 0, 1, 5, 1], [-3]])


class AddTest(unittest.TestCase):
    def test_numbered_behind_the_others(self):
        out = ask_on(ONE_STREET, (ADD, 1, 0, 1000, 3), (ADD, 1, 1, 1, 1), (STREET, 1), (STREET, 2), (STREET, 0),
                     (SIZES,))
        self.assertEqual(out, [[0, 1], [0, 2], [0, 1, 0, 1000, 3], [0, 1, 1, 1, 1], [0, 0, 1, 5, 1], [0, 2, 3, 0]])

    def test_to_one_place_without_streets(self):
        out = ask_on(ALONE, (WALK, 0), (ADD, 0, 0, 4, 2), (WALK, 0), (HEIGHTS,), (TOTAL,), (SHARE, 0, 4))
        self.assertEqual(out, [[0, 0], [0, 0], [0, 8, 0, 0], [0, 0, 4], [0, 8, 8], [0, 2, 1, 4, 1, 4]])

    def test_up_to_sixteen_streets(self):
        out = ask_on(ALONE, *[(ADD, 0, 0, i + 1, 3) for i in range(16)], (SIZES,), (TOTAL,), (STREET, 15), (WALK, 0))
        self.assertEqual(out[:16], [[0, i] for i in range(16)])
        self.assertEqual(out[16:19], [[0, 1, 16, 0], [0, 408, 408], [0, 0, 0, 16, 3]])
        self.assertEqual(out[19], [0, 408] + [i for i in range(16) for k in range(3)])

    def test_what_is_told_then(self):
        out = ask_on(ONE_STREET, (ADD, 1, 0, 9, 1), (ODD,), (EXTRA,), (WALK, 1), (TOTAL,), (ADD, 0, 1, 6, 1), (ODD,),
                     (EXTRA,), (WALK, 0), (TOTAL,), (CHECK, [2]), (ROUND, 0, [0, 0, 1, 2]), (CUTS,))
        self.assertEqual(out, [[0, 1], [0], [0, 0], [0, 14, 0, 1], [0, 14, 14], [0, 2], [0, 0, 1], [0, 5, 0],
                               [0, 25, 0, 0, 1, 2], [0, 20, 25], [0, 1, 6], [0, 1, 25], [0, 10, 2, 10]])

    def test_on_seven_places(self):
        way = (7, [(place, place + 1, 1, 1) for place in range(6)])
        self.assertEqual(ask_on(way, (TOTAL,), (ADD, 6, 0, 1, 1), (TOTAL,)), [[0, 6, 12], [0, 6], [0, 7, 7]])


class TotalTest(unittest.TestCase):
    def test_one_place_and_no_streets(self):
        self.assertEqual(ask_on(ALONE, (TOTAL,)), [[0, 0, 0]])

    def test_streets_count_as_often_as_they_must_be_walked(self):
        self.assertEqual(ask_on(SQUARE, (TOTAL,)), [[0, 4, 4]])
        self.assertEqual(ask_on((2, [(0, 1, 5, 3)]), (TOTAL,)), [[0, 15, 20]])
        self.assertEqual(ask_on((1, [(0, 0, 1000, 3)] * 16), (TOTAL,)), [[0, 48000, 48000]])
        self.assertEqual(ask_on(BRIDGE, (TOTAL,)), [[0, 16, 20]])

    def test_first_number_and_extra_together_and_every_walk(self):
        for town in list(small_towns(71, 80, 7, 16, 1000)) + [full_town()]:
            total, extra, *walks = ask_on(town, (TOTAL,), (EXTRA,), *[(WALK, place) for place in range(town[0])])
            must = sum(street[2] * street[3] for street in town[1])
            self.assertEqual(total, [0, must, must + extra[1]], town)
            self.assertEqual({walk[1] for walk in walks}, {total[2]}, town)


class SizesTest(unittest.TestCase):
    def test_without_a_map(self):
        self.assertEqual(ask((SIZES,)), [[0, 0, 0, 0]])
        self.assertEqual(ask((MAP, 2, []), (HOME, 0, 0, 0), (ADD, 0, 0, 1, 1), (SIZES,)),
                         [[-5], [-2], [-2], [0, 0, 0, 0]])

    def test_with_a_map(self):
        self.assertEqual(ask_on(ALONE, (SIZES,)), [[0, 1, 0, 0]])
        self.assertEqual(ask_on(full_town(), (SIZES,)), [[0, 7, 16, 0]])
        out = ask_on(BRIDGE, (HOME, 0, 0, 0), (SIZES,), (ADD, 0, 0, 1, 1), (SIZES,), map_call(ALONE), (SIZES,))
        self.assertEqual(out[1::2], [[0, 3, 4, 1], [0, 3, 5, 1], [0, 1, 0, 0]])


def probes(source, town):
    """Calls of every kind that tells of a map, in groups that fit in a line beside others."""
    places, streets = town
    rows = [[i for i in range(len(streets)) if source.random() < 0.5] for at in range(4)]
    weights = [[source.randrange(2 ** places), source.randint(0, 5)] for at in range(6)]
    yield [(ODD,), (EXTRA,), (CUTS,), (HEIGHTS,), (TOTAL,), (SIZES,), (HOMES,)]
    yield [(CHECK, row) for row in rows] + [(PACKS, pair) for pair in weights]
    yield [(WALK, place) for place in range(places)] + [(ROUND, place, rows[0] * 2) for place in range(places)]
    yield [(SHARE, place, hours) for place in range(places) for hours in (1, 4, 11)]
    yield [(LEAST, number) for number in range(min(32, 2 ** places))]
    yield [(FOUND, place, t) for place in range(places) for t in (0, 5, 13)]
    yield [(BEST, place, 20) for place in range(places)] + [(STREET, i) for i in range(16)]


class ChangedMapTest(unittest.TestCase):
    def test_every_call_answers_as_for_a_new_map(self):
        source = random.Random(72)
        for town, changes, now in changed_towns(73, 60, 5, 6, 4):
            homes = [(HOME, source.randrange(town[0]), t, t + source.randint(0, 4)) for t in range(0, 30, 6)]
            for calls in probes(source, now):
                # What was told before a change must not be told again behind it.
                before = calls if len(calls) <= 16 else calls[:16]
                old = ask(map_call(town), *homes, *before, *changes, *calls)
                new = ask(map_call(now), *homes, *calls)
                self.assertEqual(old[-len(calls):], new[-len(calls):], (town, changes, homes, calls))

    def test_changed_behind_every_call(self):
        for town, changes, now in changed_towns(74, 60, 4, 5, 4, 6):
            line_of_calls = []
            for change in changes:
                line_of_calls += [change, (EXTRA,), (HEIGHTS,), (WALK, 0), (TOTAL,)]
            out = ask_on(town, *line_of_calls)
            self.assertEqual(out[-4:], ask_on(now, (EXTRA,), (HEIGHTS,), (WALK, 0), (TOTAL,)), (town, changes))

    def test_promise_1(self):
        for town, changes, now in changed_towns(75, 100, 6, 12, 1000):
            for place in range(town[0]):
                total, extra, walk = ask_on(town, *changes, (TOTAL,), (EXTRA,), (WALK, place))[-3:]
                self.assertEqual(ask_on(town, *changes, (ROUND, place, walk[2:]))[-1], [0, 1, walk[1]], (town, changes))
                self.assertTrue(is_round(now, place, walk[2:]), (town, changes))
                self.assertEqual(total[2], walk[1], (town, changes))
                self.assertEqual(total[2], total[1] + extra[1], (town, changes))
                self.assertEqual(total[1], sum(street[2] * street[3] for street in now[1]), (town, changes))

    def test_promise_1_no_round_is_shorter(self):
        for town, changes, now in changed_towns(76, 60, 4, 3, 4, 3):
            for place in range(town[0]):
                out = ask_on(town, *changes, (WALK, place), (TOTAL,))
                self.assertEqual([out[-2][1], out[-1][2]], [least_round(now, place)] * 2, (town, changes, place))

    def test_promise_3(self):
        for town, changes, now in changed_towns(77, 150, 7, 12, 1000):
            extra = ask_on(town, *changes, (EXTRA,))[-1]
            times = [street[3] + (i in extra[2:]) for i, street in enumerate(now[1])]
            self.assertEqual(odd_for(now[1], times), set(), (town, changes))
            self.assertEqual(ask_on(town, *changes, (CHECK, extra[2:]))[-1], [0, 1, extra[1]], (town, changes))
