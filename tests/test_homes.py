"""The calls home, homes, found and best: who is at home when the told walk passes."""

import random
import unittest

from tests.helper import (
    ADD, ALONE, BEST, BRIDGE, CHANGE, FOUND, HOME, HOMES, MAP, ONE_STREET, SIZES, SQUARE, WALK,
    ask, ask_on, changed_towns, found_by, full_town, map_call, random_town, small_towns,
)

LATEST = 100000
# From place 0 the walk passes 0, 1, 1, 0 after 0, 2, 7 and 9.
OWN_END = (2, [(0, 1, 2, 2), (1, 1, 5, 1)])


def some_homes(source, places, count, latest):
    out = []
    for at in range(count):
        first = source.randint(0, latest)
        out.append((source.randrange(places), first, min(LATEST, first + source.choice((0, 0, 1, 3, 9)))))
    return out


def home_calls(homes):
    return [(HOME,) + home for home in homes]


class HomesTest(unittest.TestCase):
    def test_numbered_from_0_and_told_in_order(self):
        out = ask_on(ONE_STREET, (HOMES,), (HOME, 1, 7, 9), (HOME, 0, 0, 0), (HOME, 1, 7, 9), (HOMES,), (SIZES,))
        self.assertEqual(out, [[0], [0, 0], [0, 1], [0, 2], [0, 1, 7, 9, 0, 0, 0, 1, 7, 9], [0, 2, 1, 3]])

    def test_the_ends_of_the_times(self):
        out = ask_on(ALONE, (HOME, 0, 0, LATEST), (HOME, 0, LATEST, LATEST), (HOME, 0, 0, 0), (HOMES,))
        self.assertEqual(out[3], [0, 0, 0, LATEST, 0, LATEST, LATEST, 0, 0, 0])

    def test_twelve_homes(self):
        homes = some_homes(random.Random(61), 7, 12, LATEST)
        out = ask_on(full_town(), *home_calls(homes), (HOMES,), (SIZES,))
        self.assertEqual(out[:12], [[0, number] for number in range(12)])
        self.assertEqual(out[12:], [[0] + [number for home in homes for number in home], [0, 7, 16, 12]])

    def test_a_map_leaves_no_homes(self):
        out = ask_on(ONE_STREET, (HOME, 1, 0, LATEST), map_call(ONE_STREET), (HOMES,), (FOUND, 0, 0), (BEST, 0, 200),
                     (SIZES,), (HOME, 0, 3, 4), (HOMES,))
        self.assertEqual(out[2:], [[0], [0], [0, 0, 0], [0, 2, 1, 0], [0, 0], [0, 0, 3, 4]])

    def test_a_refused_map_leaves_the_homes(self):
        for wrong in ((MAP, 0, []), (MAP, 2, [0, 2, 1, 1]), (MAP, 2, [])):
            out = ask_on(ONE_STREET, (HOME, 1, 0, 9), wrong, (HOMES,), (FOUND, 0, 0), (SIZES,))
            self.assertLess(out[1][0], 0)
            self.assertEqual(out[2:], [[0, 1, 0, 9], [0, 0], [0, 2, 1, 1]])


class FoundTest(unittest.TestCase):
    def test_no_homes(self):
        self.assertEqual(ask_on(SQUARE, (FOUND, 0, 0), (FOUND, 3, LATEST)), [[0], [0]])

    def test_a_walk_without_streets_passes_its_place(self):
        out = ask_on(ALONE, (HOME, 0, 5, 6), (FOUND, 0, 4), (FOUND, 0, 5), (FOUND, 0, 6), (FOUND, 0, 7))
        self.assertEqual(out[1:], [[0], [0, 0], [0, 0], [0]])

    def test_the_ends_of_the_time_at_home_and_one_moment_outside(self):
        # Begun at t, the walk passes place 1 at t + 5 alone.
        out = ask_on(ONE_STREET, (HOME, 1, 20, 23), *[(FOUND, 0, t) for t in (14, 15, 16, 18, 19)])
        self.assertEqual(out[1:], [[0], [0, 0], [0, 0], [0, 0], [0]])

    def test_the_very_moment(self):
        out = ask_on(ONE_STREET, (HOME, 1, 20, 20), *[(FOUND, 0, t) for t in (14, 15, 16)])
        self.assertEqual(out[1:], [[0], [0, 0], [0]])

    def test_at_home_between_two_passings_alone(self):
        # Place 0 is passed at t and at t + 10.
        out = ask_on(ONE_STREET, (HOME, 0, 101, 109), (FOUND, 0, 100), (FOUND, 0, 99), (FOUND, 0, 101), (FOUND, 0, 91))
        self.assertEqual(out[1:], [[0], [0, 0], [0, 0], [0, 0]])

    def test_the_first_place_at_the_beginning_and_again_later(self):
        out = ask_on(ONE_STREET, (HOME, 0, 50, 50), (FOUND, 0, 50), (FOUND, 0, 40), (FOUND, 0, 45), (FOUND, 1, 45),
                     (FOUND, 1, 50), (FOUND, 1, 40))
        self.assertEqual(out[1:], [[0, 0], [0, 0], [0], [0, 0], [0], [0]])

    def test_a_street_from_a_place_to_itself(self):
        self.assertEqual(ask_on(OWN_END, (WALK, 0)), [[0, 9, 0, 1, 0]])
        out = ask_on(OWN_END, (HOME, 1, 12, 12), *[(FOUND, 0, t) for t in (4, 5, 6, 9, 10, 11, 3)])
        self.assertEqual(out[1:], [[0], [0, 0], [0], [0], [0, 0], [0], [0]])

    def test_several_rising(self):
        out = ask_on(ONE_STREET, (HOME, 1, 5, 5), (HOME, 0, 4, 4), (HOME, 0, 10, 90), (HOME, 0, 0, 0), (FOUND, 0, 0),
                     (FOUND, 1, 0), (FOUND, 0, 4))
        self.assertEqual(out[4:], [[0, 0, 2, 3], [0], [0, 1, 2]])

    def test_streets_walked_once_more_take_their_time(self):
        # From place 0 the walk passes 0, 1, 2, 2, 1, 0 after 0, 3, 7, 14, 18 and 20; street 1 is walked twice.
        self.assertEqual(ask_on(BRIDGE, (WALK, 0)), [[0, 20, 0, 1, 2, 1, 3]])
        homes = [(0, 20, 20), (1, 21, 21), (2, 21, 21)]
        found = {0: [0], 3: [1], 7: [2], 14: [2], 18: [1], 20: [0]}
        for t in range(30):
            self.assertEqual(ask_on(BRIDGE, *home_calls(homes), (FOUND, 0, t))[3], [0] + found.get(t, []), t)

    def test_the_latest_times(self):
        out = ask_on(ONE_STREET, (HOME, 0, LATEST, LATEST), (HOME, 1, 0, LATEST), (FOUND, 0, LATEST),
                     (FOUND, 1, LATEST), (FOUND, 0, LATEST - 10), (FOUND, 0, LATEST - 5), (FOUND, 0, LATEST - 4))
        self.assertEqual(out[2:], [[0, 0], [0, 1], [0, 0, 1], [0, 1], [0]])

    def test_by_the_passings_of_the_told_walk(self):
        source = random.Random(62)
        some = 0
        for town in list(small_towns(63, 150, 5, 8, 9)) + [full_town(), random_town(source, 7, 16), ALONE]:
            homes = some_homes(source, town[0], source.choice((0, 1, 3, 12)), 60)
            for place in range(town[0]):
                times = [source.randint(0, 60) for at in range(8)] + [0, LATEST]
                out = ask_on(town, *home_calls(homes), (WALK, place), *[(FOUND, place, t) for t in times])
                walk = out[len(homes)][2:]
                for t, found in zip(times, out[len(homes) + 1:]):
                    self.assertEqual(found, [0] + found_by(town, homes, place, walk, t), (town, homes, place, t))
                    some += len(found) > 1
        self.assertGreater(some, 500)


class BestTest(unittest.TestCase):
    def test_none_found_at_all(self):
        out = ask_on(ONE_STREET, (BEST, 0, 0), (BEST, 1, 200), (HOME, 1, 206, 300), (BEST, 0, 200), (HOME, 1, 0, 4),
                     (BEST, 0, 200))
        self.assertEqual(out, [[0, 0, 0], [0, 0, 0], [0, 0], [0, 0, 0], [0, 1], [0, 0, 0]])

    def test_the_last_time_counts_too(self):
        out = ask_on(ONE_STREET, (HOME, 1, 205, 300), (BEST, 0, 200), (BEST, 0, 199))
        self.assertEqual(out[1:], [[0, 200, 1], [0, 0, 0]])

    def test_at_time_0_alone(self):
        out = ask_on(ONE_STREET, (HOME, 1, 5, 5), (BEST, 0, 0), (HOME, 1, 6, 6), (BEST, 0, 0), (BEST, 1, 0))
        self.assertEqual(out, [[0, 0], [0, 0, 1], [0, 1], [0, 0, 1], [0, 0, 0]])

    def test_the_first_of_several_that_find_as_many(self):
        out = ask_on(ALONE, (HOME, 0, 7, 9), (HOME, 0, 3, 4), (HOME, 0, 20, 21), (HOME, 0, 21, 30), (HOME, 0, 40, 50),
                     (HOME, 0, 50, 60), (BEST, 0, 19), (BEST, 0, 200), (BEST, 0, 20), (BEST, 0, 2))
        self.assertEqual(out[6:], [[0, 3, 1], [0, 21, 2], [0, 3, 1], [0, 0, 0]])

    def test_a_home_is_found_once_however_often_it_is_passed(self):
        out = ask_on(ONE_STREET, (HOME, 0, 0, 90), (HOME, 1, 30, 30), (BEST, 0, 200))
        self.assertEqual(out[2], [0, 25, 2])

    def test_compared_with_found_at_every_time(self):
        source = random.Random(64)
        later = 0
        for town in list(small_towns(65, 80, 5, 8, 9)) + [full_town(), random_town(source, 7, 16)]:
            homes = some_homes(source, town[0], source.choice((0, 1, 5, 12)), 210)
            place = source.randrange(town[0])
            last = source.choice((0, 60, 199, 200))
            found = []
            for begin in range(0, last + 1, 40):
                calls = [(FOUND, place, t) for t in range(begin, min(begin + 40, last + 1))]
                found += ask_on(town, *home_calls(homes), *calls)[len(homes):]
            many = [len(answer) - 1 for answer in found]
            want = [0, many.index(max(many)), max(many)]
            self.assertEqual(ask_on(town, *home_calls(homes), (BEST, place, last))[-1], want, (town, homes, place))
            later += want[1] > 0
        self.assertGreater(later, 10)


class ChangedTest(unittest.TestCase):
    def test_the_homes_stay(self):
        out = ask_on(ONE_STREET, (HOME, 1, 20, 20), (FOUND, 0, 15), (CHANGE, 0, 6, 1), (FOUND, 0, 15), (FOUND, 0, 14),
                     (BEST, 0, 200), (ADD, 0, 0, 2, 1), (FOUND, 0, 14), (FOUND, 0, 12), (BEST, 0, 200), (HOMES,))
        self.assertEqual(out[1:], [[0, 0], [0], [0], [0, 0], [0, 14, 1], [0, 1], [0, 0], [0], [0, 14, 1],
                                   [0, 1, 20, 20]])

    def test_a_home_at_a_place_passed_on_a_new_way(self):
        # The new street is walked there or back instead of the old one twice, which was 40 long.
        out = ask((MAP, 2, [0, 1, 40, 1]), (HOME, 0, 43, 43), (FOUND, 0, 0), (ADD, 1, 0, 3, 1), (FOUND, 0, 0),
                  (BEST, 0, 5))
        self.assertEqual(out[2:], [[0], [0, 1], [0, 0], [0, 0, 1]])

    def test_by_the_passings_of_the_told_walk(self):
        source = random.Random(67)
        for town, calls, now in changed_towns(68, 100, 5, 7, 9):
            homes = some_homes(source, town[0], source.choice((1, 4, 12)), 60)
            place = source.randrange(town[0])
            times = range(0, 60, 3)
            walk = ask_on(now, (WALK, place))[0][2:]
            out = ask_on(town, *home_calls(homes), *calls, *[(FOUND, place, t) for t in times], (BEST, place, 30))
            for t, found in zip(times, out[-21:-1]):
                self.assertEqual(found, [0] + found_by(now, homes, place, walk, t), (town, calls, homes, place, t))
            many = [len(found_by(now, homes, place, walk, t)) for t in range(31)]
            self.assertEqual(out[-1], [0, many.index(max(many)), max(many)], (town, calls, homes, place))
