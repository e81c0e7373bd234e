"""The calls cuts and packs; promise 2."""

import random
import unittest

from tests.helper import (
    ALONE, BRIDGE, CUTS, EXTRA, LEAST, ONE_STREET, PACKS, SQUARE, TWIN_WAYS,
    accepted, ask_on, full_town, number_of, odd_of, small_towns, told_cuts,
)

WAY = (4, [(0, 1, 1, 1), (1, 2, 2, 1), (2, 3, 3, 1)])
STAR = (4, [(0, 1, 1, 1), (0, 2, 2, 1), (0, 3, 3, 1)])
EVEN_STAR = (4, [(0, 3, 1, 1), (0, 2, 1, 1), (0, 1, 1, 1)])


class CutsTest(unittest.TestCase):
    def test_nothing_to_prove(self):
        for town in (ALONE, SQUARE, (1, [(0, 0, 9, 3)]), (2, [(0, 1, 5, 2)])):
            self.assertEqual(ask_on(town, (CUTS,)), [[0, 0]])

    def test_one_street(self):
        self.assertEqual(ask_on(ONE_STREET, (CUTS,)), [[0, 10, 2, 10]])
        self.assertEqual(ask_on((2, [(1, 0, 5, 3)]), (CUTS,)), [[0, 10, 2, 10]])

    def test_streets_in_a_row(self):
        self.assertEqual(ask_on(WAY, (CUTS,)), [[0, 12, 8, 6, 12, 4, 14, 2]])

    def test_a_set_that_came_before_gets_its_weight_more(self):
        self.assertEqual(ask_on(STAR, (CUTS,)), [[0, 12, 8, 6, 4, 4, 2, 2]])

    def test_groups_of_a_level_in_order_by_their_least_place(self):
        self.assertEqual(ask_on(EVEN_STAR, (CUTS,)), [[0, 6, 2, 2, 4, 2, 8, 2]])
        town = (4, [(0, 1, 2, 1), (0, 2, 1, 1), (1, 3, 1, 2)])
        self.assertEqual(ask_on(town, (CUTS,)), [[0, 6, 2, 2, 10, 2, 4, 2]])

    def test_a_street_without_which_a_place_is_not_come_to(self):
        self.assertEqual(ask_on(BRIDGE, (CUTS,)), [[0, 8, 4, 8]])
        # The same street told the other way round: it is the other end that has no least.
        turned = (3, [(0, 1, 3, 1), (2, 1, 4, 1), (2, 2, 7, 1), (1, 0, 2, 1)])
        self.assertEqual(ask_on(turned, (CUTS,)), [[0, 8, 4, 8]])

    def test_by_the_words(self):
        for town in small_towns(11, 200, 5, 7, 5):
            cuts = told_cuts(town)
            want = [0, sum(weight for number, weight in cuts)] + [part for cut in cuts for part in cut]
            self.assertEqual(ask_on(town, (CUTS,)), [want], town)

    def test_promise_2_the_told_ones_are_accepted_and_prove_just_the_length(self):
        for town in list(small_towns(12, 200, 7, 16, 1000)) + [full_town(), TWIN_WAYS]:
            extra, cuts = ask_on(town, (EXTRA,), (CUTS,))
            self.assertEqual(cuts[1], 2 * extra[1], town)
            self.assertEqual(sum(cuts[3::2]), cuts[1], town)
            self.assertEqual(ask_on(town, (PACKS, cuts[2:])), [[0, 1, cuts[1]]], town)
            self.assertTrue(accepted(town, list(zip(cuts[2::2], cuts[3::2]))), town)
            self.assertEqual(len(set(cuts[2::2])), len(cuts[2::2]), town)


class PacksTest(unittest.TestCase):
    def test_no_cuts_are_accepted(self):
        self.assertEqual(ask_on(ONE_STREET, (PACKS, [])), [[0, 1, 0]])
        self.assertEqual(ask_on(ALONE, (PACKS, [])), [[0, 1, 0]])

    def test_at_most_twice_a_street(self):
        out = ask_on(ONE_STREET, (PACKS, [1, 10]), (PACKS, [1, 11]), (PACKS, [1, 6, 2, 4]), (PACKS, [1, 6, 2, 5]))
        self.assertEqual(out, [[0, 1, 10], [0, 0, 11], [0, 1, 10], [0, 0, 11]])

    def test_the_same_set_twice(self):
        out = ask_on(ONE_STREET, (PACKS, [2, 5, 2, 5]), (PACKS, [2, 5, 2, 6]))
        self.assertEqual(out, [[0, 1, 10], [0, 0, 11]])

    def test_each_set_has_an_odd_number_of_the_odd_places(self):
        out = ask_on(ONE_STREET, (PACKS, [3, 1]), (PACKS, [0, 1]), (PACKS, [0, 0]), (PACKS, [3, 0, 1, 2]))
        self.assertEqual(out, [[0, 0, 1], [0, 0, 1], [0, 0, 0], [0, 0, 2]])
        self.assertEqual(ask_on(SQUARE, (PACKS, [1, 1])), [[0, 0, 1]])
        self.assertEqual(ask_on(STAR, (PACKS, [14, 2])), [[0, 1, 2]])

    def test_a_set_that_is_not_one_of_these_places(self):
        out = ask_on(ONE_STREET, (PACKS, [5, 1]), (PACKS, [4, 0]), (PACKS, [1000000, 1000000]), (PACKS, [129, 1]))
        self.assertEqual(out, [[0, 0, 1], [0, 0, 0], [0, 0, 1000000], [0, 0, 1]])

    def test_a_street_from_a_place_to_itself_is_never_across(self):
        self.assertEqual(ask_on(BRIDGE, (PACKS, [4, 8]), (PACKS, [4, 9])), [[0, 1, 8], [0, 0, 9]])

    def test_sixty_numbers(self):
        self.assertEqual(ask_on((2, [(0, 1, 15, 1)]), (PACKS, [1, 1] * 30)), [[0, 1, 30]])
        self.assertEqual(ask_on((2, [(0, 1, 14, 1)]), (PACKS, [1, 1] * 30)), [[0, 0, 30]])

    def test_promise_2_accepted_cuts_never_prove_too_much(self):
        source = random.Random(13)
        taken = 0
        for town in small_towns(14, 150, 5, 8, 5):
            length = ask_on(town, (LEAST, number_of(odd_of(town))))[0][2]
            for at in range(10):
                cuts = [(source.randrange(2 ** town[0]), source.randint(0, 5)) for k in range(source.randint(1, 3))]
                want = [0, int(accepted(town, cuts)), sum(weight for number, weight in cuts)]
                self.assertEqual(ask_on(town, (PACKS, [part for cut in cuts for part in cut])), [want], (town, cuts))
                if want[1]:
                    taken += 1
                    self.assertLessEqual(want[2], 2 * length, (town, cuts))
        self.assertGreater(taken, 50)
