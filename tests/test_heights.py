"""The call heights, and what it has to do with cuts; promise 2 behind change and add."""

import unittest

from tests.helper import (
    ADD, ALONE, BRIDGE, CHANGE, CUTS, EXTRA, HEIGHTS, ONE_STREET, PACKS, SQUARE,
    accepted, ask_on, best_by_set, changed_towns, full_town, heights_and_peaks, least_by_set, small_towns, told_cuts,
)

WAY = (4, [(0, 1, 1, 1), (1, 2, 2, 1), (2, 3, 3, 1)])


def turned(town):
    """The same map with each street told the other way round."""
    return town[0], [(b, a, length, often) for a, b, length, often in town[1]]


class HeightsTest(unittest.TestCase):
    def test_one_place_and_no_streets(self):
        self.assertEqual(ask_on(ALONE, (HEIGHTS,)), [[0, 0]])

    def test_one_street_without_which_its_end_is_not_come_to(self):
        self.assertEqual(ask_on(ONE_STREET, (HEIGHTS,)), [[0, 0, -10, 0]])
        # No place is odd: now it is the other end for which there is no least without the street.
        self.assertEqual(ask_on((2, [(0, 1, 5, 2)]), (HEIGHTS,)), [[0, 0, 10, 10]])

    def test_heights_and_peaks_below_0(self):
        self.assertEqual(ask_on(WAY, (HEIGHTS,)), [[0, 0, -2, -6, -12, 0, -2, -6]])
        self.assertEqual(ask_on(turned(WAY), (HEIGHTS,)), [[0, 0, -2, -6, -12, 0, -2, -6]])

    def test_a_street_from_a_place_to_itself(self):
        self.assertEqual(ask_on((1, [(0, 0, 4, 3)]), (HEIGHTS,)), [[0, 0, 4]])
        self.assertEqual(ask_on(BRIDGE, (HEIGHTS,)), [[0, 0, 4, -4, 5, 4, 3, 4]])
        self.assertEqual(ask_on(turned(BRIDGE), (HEIGHTS,)), [[0, 0, 4, -4, 5, 4, 3, 4]])

    def test_no_odd_places(self):
        self.assertEqual(ask_on(SQUARE, (HEIGHTS,)), [[0, 0, 2, 4, 2, 2, 4, 4, 2]])

    def test_each_of_the_three_may_be_the_least(self):
        # Two streets side by side: the peak of the short one is by 2 l + A, told the other way round by 2 l + B.
        town = (2, [(0, 1, 1, 1), (0, 1, 8, 1)])
        self.assertEqual(ask_on(town, (HEIGHTS,)), [[0, 0, 2, 2, 9]])
        self.assertEqual(ask_on(turned(town), (HEIGHTS,)), [[0, 0, 2, 2, 9]])

    def test_by_the_words(self):
        for town in small_towns(51, 250, 5, 7, 5):
            heights, peaks = heights_and_peaks(town)
            self.assertEqual(ask_on(town, (HEIGHTS,)), [[0] + heights + peaks], town)

    def test_seven_places_and_sixteen_streets_by_all_choices(self):
        for seed in (7, 52):
            town = full_town(seed)
            heights, peaks = heights_and_peaks(town)
            cuts = told_cuts(town)
            want = [0, sum(weight for number, weight in cuts)] + [part for cut in cuts for part in cut]
            self.assertEqual(ask_on(town, (HEIGHTS,), (CUTS,)), [[0] + heights + peaks, want])

    def test_the_search_for_many_streets_finds_what_the_plain_one_finds(self):
        for town in small_towns(53, 60, 4, 7):
            best = {number: length for number, (length, taken) in best_by_set(town[1]).items()}
            self.assertEqual(least_by_set(town[1]), best, town)


class ChangedTest(unittest.TestCase):
    def test_heights_of_the_map_as_it_is_then(self):
        out = ask_on(ONE_STREET, (CHANGE, 0, 7, 1), (HEIGHTS,), (CHANGE, 0, 7, 2), (HEIGHTS,), (ADD, 1, 1, 3, 1),
                     (HEIGHTS,), (ADD, 1, 0, 1, 1), (HEIGHTS,))
        self.assertEqual(out, [[0], [0, 0, -14, 0], [0], [0, 0, 14, 14], [0, 1],
                               [0, 0, 14, 14, 17], [0, 2], [0, 0, -2, 6, 1, 0]])

    def test_by_the_words(self):
        for town, calls, now in changed_towns(54, 120, 5, 5, 5):
            heights, peaks = heights_and_peaks(now)
            self.assertEqual(ask_on(town, *calls, (HEIGHTS,))[-1], [0] + heights + peaks, (town, calls))

    def test_promise_2(self):
        for town, calls, now in changed_towns(55, 150, 7, 12, 1000):
            extra, cuts = ask_on(town, *calls, (EXTRA,), (CUTS,))[-2:]
            self.assertEqual(cuts[1], 2 * extra[1], (town, calls))
            self.assertEqual(sum(cuts[3::2]), cuts[1], (town, calls))
            self.assertEqual(ask_on(town, *calls, (PACKS, cuts[2:]))[-1], [0, 1, cuts[1]], (town, calls))
            self.assertTrue(accepted(now, list(zip(cuts[2::2], cuts[3::2]))), (town, calls))
