"""The calls map, odd, extra, check and least; promise 3."""

import random
import unittest

from tests.helper import (
    ALONE, BRIDGE, CHECK, EXTRA, LEAST, MAP, ODD, ONE_STREET, SQUARE, TWIN_WAYS,
    ask, ask_on, best_by_set, full_town, members, number_of, odd_of, random_town, small_towns,
)

OFTEN = (3, [(0, 1, 4, 1), (1, 2, 5, 2), (2, 0, 6, 3)])


class MapTest(unittest.TestCase):
    def test_answers_how_many_streets(self):
        self.assertEqual(ask((MAP, 2, [0, 1, 5, 1])), [[0, 1]])
        self.assertEqual(ask((MAP, 3, [0, 1, 5, 1, 2, 1, 1000, 3])), [[0, 2]])

    def test_one_place_and_no_streets(self):
        self.assertEqual(ask((MAP, 1, [])), [[0, 0]])

    def test_seven_places_and_sixteen_streets(self):
        places, streets = full_town()
        self.assertEqual(ask((MAP, places, [number for street in streets for number in street])), [[0, 16]])

    def test_a_new_map_takes_the_place_of_the_old(self):
        out = ask((MAP, 2, [0, 1, 5, 1]), (ODD,), (MAP, 1, []), (ODD,), (LEAST, 2))
        self.assertEqual(out, [[0, 1], [0, 0, 1], [0, 0], [0], [-3]])

    def test_streets_are_told_either_way_round(self):
        self.assertEqual(ask((MAP, 3, [2, 1, 1, 1, 1, 0, 1, 1])), [[0, 2]])


class OddTest(unittest.TestCase):
    def test_rising(self):
        self.assertEqual(ask_on((5, [(4, 3, 1, 1), (2, 1, 1, 1), (0, 4, 1, 2), (1, 0, 1, 2)]), (ODD,)),
                         [[0, 1, 2, 3, 4]])

    def test_no_odd_places(self):
        self.assertEqual(ask_on(ALONE, (ODD,)), [[0]])
        self.assertEqual(ask_on(SQUARE, (ODD,)), [[0]])
        self.assertEqual(ask_on((2, [(0, 1, 5, 2)]), (ODD,)), [[0]])

    def test_streets_count_as_often_as_they_must_be_walked(self):
        self.assertEqual(ask_on(OFTEN, (ODD,)), [[0, 1, 2]])
        self.assertEqual(ask_on((2, [(0, 1, 5, 3)]), (ODD,)), [[0, 0, 1]])

    def test_a_street_from_a_place_to_itself_has_two_ends_there(self):
        self.assertEqual(ask_on((1, [(0, 0, 5, 1)]), (ODD,)), [[0]])
        self.assertEqual(ask_on(BRIDGE, (ODD,)), [[0, 1, 2]])

    def test_by_counting(self):
        for town in small_towns(1, 200, 7, 16):
            self.assertEqual(ask_on(town, (ODD,)), [[0] + sorted(odd_of(town))], town)


class ExtraTest(unittest.TestCase):
    def test_one_street(self):
        self.assertEqual(ask_on(ONE_STREET, (EXTRA,)), [[0, 5, 0]])

    def test_nothing_more_where_no_place_is_odd(self):
        self.assertEqual(ask_on(ALONE, (EXTRA,)), [[0, 0]])
        self.assertEqual(ask_on(SQUARE, (EXTRA,)), [[0, 0]])

    def test_the_first_of_several_that_are_as_short(self):
        self.assertEqual(ask_on(TWIN_WAYS, (EXTRA,)), [[0, 3, 1, 3]])
        self.assertEqual(ask_on((2, [(0, 1, 5, 1), (1, 0, 5, 1), (0, 1, 5, 1)]), (EXTRA,)), [[0, 5, 2]])

    def test_one_long_street_or_many_short_ones(self):
        self.assertEqual(ask_on((3, [(0, 1, 3, 2), (1, 2, 3, 2), (0, 2, 7, 1)]), (EXTRA,)), [[0, 6, 0, 1]])
        self.assertEqual(ask_on((3, [(0, 1, 4, 2), (1, 2, 4, 2), (0, 2, 7, 1)]), (EXTRA,)), [[0, 7, 2]])

    def test_the_first_of_the_least_by_all_choices(self):
        for town in small_towns(2, 300, 5, 8, 3):
            length, taken = best_by_set(town[1])[number_of(odd_of(town))]
            self.assertEqual(ask_on(town, (EXTRA,)), [[0, length] + taken], town)

    def test_seven_places_and_sixteen_streets(self):
        town = random_town(random.Random(3), 7, 16, 3)
        length, taken = best_by_set(town[1])[number_of(odd_of(town))]
        self.assertEqual(ask_on(town, (EXTRA,)), [[0, length] + taken])

    def test_promise_3_extra_suits_by_check(self):
        for town in small_towns(4, 200, 7, 16, 1000):
            extra = ask_on(town, (EXTRA,))[0]
            self.assertEqual(ask_on(town, (CHECK, extra[2:])), [[0, 1, extra[1]]], town)


class CheckTest(unittest.TestCase):
    def test_suits_or_not(self):
        out = ask_on(TWIN_WAYS, (CHECK, [0, 2]), (CHECK, [3, 1]), (CHECK, [4]), (CHECK, [0, 1]), (CHECK, []))
        self.assertEqual(out, [[0, 1, 3], [0, 1, 3], [0, 1, 9], [0, 0, 3], [0, 0, 0]])

    def test_each_street_once_however_often_it_stands_there(self):
        out = ask_on(ONE_STREET, (CHECK, [0, 0]), (CHECK, [0] * 16))
        self.assertEqual(out, [[0, 1, 5], [0, 1, 5]])

    def test_no_streets_suit_no_odd_places(self):
        self.assertEqual(ask_on(ALONE, (CHECK, [])), [[0, 1, 0]])
        self.assertEqual(ask_on(SQUARE, (CHECK, []), (CHECK, [0, 1, 2, 3])), [[0, 1, 0], [0, 1, 4]])

    def test_a_street_from_a_place_to_itself_changes_nothing_but_the_length(self):
        self.assertEqual(ask_on(BRIDGE, (CHECK, [1]), (CHECK, [1, 2])), [[0, 1, 4], [0, 1, 11]])

    def test_by_all_choices(self):
        source = random.Random(5)
        for town in small_towns(6, 100, 4, 6):
            for at in range(10):
                row = [i for i in range(len(town[1])) if source.random() < 0.5]
                suited = number_of(odd_of((town[0], [town[1][i][:3] + (1,) for i in row])))
                length = sum(town[1][i][2] for i in row)
                want = [0, int(members(suited) == odd_of(town)), length]
                self.assertEqual(ask_on(town, (CHECK, row)), [want], (town, row))


class LeastTest(unittest.TestCase):
    def test_sets_of_one_street(self):
        out = ask_on(ONE_STREET, (LEAST, 0), (LEAST, 1), (LEAST, 2), (LEAST, 3))
        self.assertEqual(out, [[0, 1, 0], [0, 0], [0, 0], [0, 1, 5]])

    def test_one_place_and_no_streets(self):
        self.assertEqual(ask_on(ALONE, (LEAST, 0), (LEAST, 1)), [[0, 1, 0], [0, 0]])

    def test_every_set_by_all_choices(self):
        for town in small_towns(8, 60, 5, 8):
            best = best_by_set(town[1])
            for number in range(2 ** town[0]):
                want = [0, 1, best[number][0]] if number in best else [0, 0]
                self.assertEqual(ask_on(town, (LEAST, number)), [want], (town, number))

    def test_every_set_of_seven_places_and_sixteen_streets(self):
        town = full_town(9)
        best = best_by_set(town[1])
        for number in range(128):
            want = [0, 1, best[number][0]] if number in best else [0, 0]
            self.assertEqual(ask_on(town, (LEAST, number)), [want], number)
