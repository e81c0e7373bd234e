"""The calls walk, round and share; promise 1."""

import random
import unittest

from tests.helper import (
    ALONE, BRIDGE, EXTRA, LEAST, ONE_STREET, ROUND, SHARE, SQUARE, WALK,
    ask_on, first_walk, full_town, is_round, least_round, number_of, odd_of, small_towns,
)

SIDE_WAY = (3, [(0, 1, 1, 1), (1, 0, 2, 1), (1, 2, 3, 1), (2, 1, 4, 1)])
OWN_END = (2, [(0, 1, 1, 2), (1, 1, 5, 2)])


class WalkTest(unittest.TestCase):
    def test_one_place_and_no_streets(self):
        self.assertEqual(ask_on(ALONE, (WALK, 0)), [[0, 0]])

    def test_there_and_back(self):
        self.assertEqual(ask_on(ONE_STREET, (WALK, 0), (WALK, 1)), [[0, 10, 0, 0], [0, 10, 0, 0]])
        self.assertEqual(ask_on((2, [(0, 1, 5, 3)]), (WALK, 0)), [[0, 20, 0, 0, 0, 0]])
        self.assertEqual(ask_on((2, [(0, 1, 5, 2)]), (WALK, 0)), [[0, 10, 0, 0]])

    def test_the_first_street_is_taken(self):
        self.assertEqual(ask_on(SQUARE, (WALK, 0), (WALK, 2)), [[0, 4, 0, 1, 2, 3], [0, 4, 1, 0, 3, 2]])

    def test_not_the_first_street_where_the_rest_could_not_be_walked(self):
        out = ask_on(SIDE_WAY, (WALK, 0), (WALK, 1), (WALK, 2))
        self.assertEqual(out, [[0, 10, 0, 2, 3, 1], [0, 10, 0, 1, 2, 3], [0, 10, 2, 0, 1, 3]])

    def test_a_street_from_a_place_to_itself(self):
        self.assertEqual(ask_on((1, [(0, 0, 4, 3)]), (WALK, 0)), [[0, 12, 0, 0, 0]])
        self.assertEqual(ask_on(OWN_END, (WALK, 0), (WALK, 1)), [[0, 12, 0, 1, 1, 0], [0, 12, 0, 0, 1, 1]])

    def test_promise_1_is_a_round_with_each_street_as_often_as_told(self):
        for town in list(small_towns(21, 40, 7, 16, 1000)) + [full_town(), BRIDGE]:
            extra, least = ask_on(town, (EXTRA,), (LEAST, number_of(odd_of(town))))
            must = sum(street[2] * street[3] for street in town[1])
            for place in range(town[0]):
                walk = ask_on(town, (WALK, place))[0]
                self.assertEqual(walk[1], must + least[2], (town, place))
                self.assertEqual(ask_on(town, (ROUND, place, walk[2:])), [[0, 1, walk[1]]], (town, place))
                self.assertTrue(is_round(town, place, walk[2:]), (town, place))
                for i, street in enumerate(town[1]):
                    self.assertEqual(walk[2:].count(i), street[3] + (i in extra[2:]), (town, place, i))

    def test_promise_1_no_round_is_shorter(self):
        for town in small_towns(22, 120, 4, 5):
            for place in range(town[0]):
                self.assertEqual(ask_on(town, (WALK, place))[0][1], least_round(town, place), (town, place))

    def test_the_first_of_all_walks(self):
        for town in small_towns(23, 150, 5, 6, 4, 2):
            extra = ask_on(town, (EXTRA,))[0][2:]
            times = [street[3] + (i in extra) for i, street in enumerate(town[1])]
            for place in range(town[0]):
                self.assertEqual(ask_on(town, (WALK, place))[0][2:], first_walk(town, place, times), (town, place))

    def test_the_longest_walk(self):
        # A ring of 6 streets beside 10 from its places to themselves, and streets that are walked once more.
        ring = [(at, (at + 1) % 7, 1000, 3) for at in range(6)] + [(at % 7, at % 7, 1000, 3) for at in range(10)]
        walk = ask_on((7, ring), (WALK, 0))[0]
        self.assertEqual(walk[1], 1000 * (16 * 3 + 6))
        self.assertTrue(is_round((7, ring), 0, walk[2:]))


class RoundTest(unittest.TestCase):
    def test_rounds(self):
        out = ask_on(SQUARE, (ROUND, 0, [0, 1, 2, 3]), (ROUND, 0, [3, 2, 1, 0]), (ROUND, 2, [2, 3, 0, 1]))
        self.assertEqual(out, [[0, 1, 4]] * 3)

    def test_more_often_than_a_street_must_be_walked(self):
        out = ask_on(SQUARE, (ROUND, 0, [0, 0, 0, 1, 2, 3]), (ROUND, 1, [1, 2, 3, 0] * 20))
        self.assertEqual(out, [[0, 1, 6], [0, 1, 80]])

    def test_streets_that_cannot_be_walked_one_after_another(self):
        out = ask_on(SQUARE, (ROUND, 0, [1, 0, 2, 3]), (ROUND, 0, [0, 2, 1, 3]), (ROUND, 1, [3, 2, 1, 0]))
        self.assertEqual(out, [[0, 0, 4]] * 3)

    def test_does_not_end_where_it_began(self):
        out = ask_on(SQUARE, (ROUND, 0, [0, 1, 2, 3, 0]), (ROUND, 0, [0, 1, 2]))
        self.assertEqual(out, [[0, 0, 5], [0, 0, 3]])

    def test_a_street_is_missing_or_not_there_often_enough(self):
        out = ask_on(SIDE_WAY, (ROUND, 0, [0, 1]), (ROUND, 0, []), (ROUND, 0, [0, 2, 3, 1]))
        self.assertEqual(out, [[0, 0, 3], [0, 0, 0], [0, 1, 10]])
        out = ask_on((2, [(0, 1, 5, 3)]), (ROUND, 0, [0, 0]), (ROUND, 0, [0, 0, 0]), (ROUND, 0, [0, 0, 0, 0]))
        self.assertEqual(out, [[0, 0, 10], [0, 0, 15], [0, 1, 20]])

    def test_a_street_from_a_place_to_itself(self):
        out = ask_on(OWN_END, (ROUND, 0, [0, 1, 1, 0]), (ROUND, 0, [1, 1, 0, 0]), (ROUND, 1, [1, 0, 0, 1]))
        self.assertEqual(out, [[0, 1, 12], [0, 0, 12], [0, 1, 12]])

    def test_one_place_and_no_streets(self):
        self.assertEqual(ask_on(ALONE, (ROUND, 0, [])), [[0, 1, 0]])

    def test_rows_by_chance(self):
        source = random.Random(24)
        found = 0
        for town in small_towns(25, 400, 3, 4, 4, 1):
            place = source.randrange(town[0])
            row = [source.randrange(len(town[1])) for at in range(source.randint(0, 6))] if town[1] else []
            want = [0, int(is_round(town, place, row)), sum(town[1][i][2] for i in row)]
            found += want[1]
            self.assertEqual(ask_on(town, (ROUND, place, row)), [want], (town, place, row))
        self.assertGreater(found, 20)


class ShareTest(unittest.TestCase):
    def test_as_many_streets_as_are_at_most_so_long(self):
        out = ask_on(ONE_STREET, (SHARE, 0, 5), (SHARE, 0, 9), (SHARE, 0, 10), (SHARE, 1, 100000))
        self.assertEqual(out, [[0, 2, 1, 5, 1, 5], [0, 2, 1, 5, 1, 5], [0, 1, 2, 10], [0, 1, 2, 10]])

    def test_the_next_one_goes_on_from_there(self):
        out = ask_on(SIDE_WAY, (SHARE, 0, 4), (SHARE, 0, 7), (SHARE, 0, 8), (SHARE, 2, 5))
        self.assertEqual(out, [[0, 3, 2, 4, 1, 4, 1, 2], [0, 2, 2, 4, 2, 6], [0, 2, 3, 8, 1, 2],
                               [0, 3, 2, 4, 1, 2, 1, 4]])

    def test_a_walk_without_streets_has_no_walkers(self):
        self.assertEqual(ask_on(ALONE, (SHARE, 0, 0), (SHARE, 0, 100000)), [[0, 0], [0, 0]])

    def test_shares_are_the_walk_and_none_could_take_one_more(self):
        source = random.Random(26)
        for town in small_towns(27, 100, 5, 8, 20):
            place = source.randrange(town[0])
            hours = source.randint(20, 90)
            walk, share = ask_on(town, (WALK, place), (SHARE, place, hours))
            lengths = [town[1][i][2] for i in walk[2:]]
            self.assertEqual(len(share), 2 + 2 * share[1])
            at = 0
            for count, length in zip(share[2::2], share[3::2]):
                self.assertGreater(count, 0)
                self.assertEqual(length, sum(lengths[at:at + count]))
                self.assertLessEqual(length, hours)
                at += count
                if at < len(lengths):
                    self.assertGreater(length + lengths[at], hours)
            self.assertEqual(at, len(lengths))
