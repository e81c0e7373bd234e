"""The interface: the one list of calls, the one list of answers, nothing changed and nothing kept."""

import random
import time
import unittest

from streetroundsdesk.rounds import answers
from tests.helper import (
    ADD, BEST, CHANGE, CHECK, CUTS, EXTRA, FOUND, HEIGHTS, HOME, HOMES, LEAST, MAP, ODD, PACKS, ROUND, SHARE, SIZES,
    STREET, TOTAL, WALK,
    ask, full_town, line, map_call, random_town,
)

EVERY = [(MAP, 2, [0, 1, 5, 1]), (ODD,), (EXTRA,), (CHECK, [0]), (CUTS,), (PACKS, [2, 10]), (WALK, 1),
         (ROUND, 0, [0, 0]), (SHARE, 0, 5), (LEAST, 3), (HEIGHTS,), (HOME, 1, 7, 8), (HOMES,), (FOUND, 0, 3),
         (BEST, 0, 9), (STREET, 0), (CHANGE, 0, 6, 2), (ADD, 1, 0, 4, 1), (TOTAL,), (SIZES,)]


class WatchedList(list):
    """A list that tells if something tries to change it, for a while too."""

    def refuse(self, *args, **kwargs):
        raise AssertionError("what is handed in was changed")

    __setitem__ = __delitem__ = __iadd__ = __imul__ = refuse
    append = extend = insert = pop = remove = clear = sort = reverse = refuse


class InterfaceTest(unittest.TestCase):
    def test_numbers_of_the_calls_and_counts_ahead_of_the_answers(self):
        calls = [0, 2, 4, 0, 1, 5, 1, 1, 2, 3, 1, 0, 4, 5, 2, 2, 10, 6, 1, 7, 0, 2, 0, 0, 8, 0, 5, 9, 3,
                 10, 11, 1, 7, 8, 12, 13, 0, 3, 14, 0, 9, 15, 0, 16, 0, 6, 2, 17, 1, 0, 4, 1, 18, 19]
        self.assertEqual(line(EVERY), calls)
        self.assertEqual(answers(calls), [
            2, 0, 1,
            3, 0, 0, 1,
            3, 0, 5, 0,
            3, 0, 1, 5,
            4, 0, 10, 2, 10,
            3, 0, 1, 10,
            4, 0, 10, 0, 0,
            3, 0, 1, 10,
            6, 0, 2, 1, 5, 1, 5,
            3, 0, 1, 5,
            4, 0, 0, -10, 0,
            2, 0, 0,
            4, 0, 1, 7, 8,
            2, 0, 0,
            3, 0, 2, 1,
            5, 0, 0, 1, 5, 1,
            1, 0,
            2, 0, 1,
            3, 0, 16, 20,
            4, 0, 2, 2, 1,
        ])

    def test_a_refusal_is_one_number_alone(self):
        self.assertEqual(answers([1]), [1, -2])
        self.assertEqual(answers([0, 8, 0, 1, 0, 1, 0, 1, 6, 7, 6, 6, 6, 0]),
                         [1, -1, 1, -2, 2, 0, 0, 1, 0, 1, -1, 1, -3, 2, 0, 0])

    def test_rows_too_long_are_still_read_to_their_end(self):
        self.assertEqual(answers([0, 1, 0, 3, 17] + [0] * 17 + [5, 90] + [1] * 90 + [7, 0, 81] + [1] * 81 + [1]),
                         [2, 0, 0, 1, -1, 1, -1, 1, -1, 1, 0])
        self.assertEqual(answers([0, 1, 90] + [1] * 90 + [0, 1, 0]), [1, -1, 2, 0, 0])

    def test_numbers_far_out_of_range_are_still_read_to_their_end(self):
        far = 10 ** 18
        calls = [11, -far, far, far, 13, far, far, 14, far, -far, 15, far, 16, far, far, far, 17, far, far, far, far,
                 19]
        self.assertEqual(answers(calls), [1, -1] * 6 + [4, 0, 0, 0, 0])

    def test_numbers_that_look_like_calls_are_not_taken_for_calls(self):
        self.assertEqual(answers([0, 2, 4, 0, 1, 6, 3, 9, 2, 3, 2, 9, 9, 9, 0]),
                         [2, 0, 1, 2, 0, 0, 1, -3, 3, 0, 1, 0])

    def test_a_list_of_whole_numbers_is_given_back(self):
        given = answers(line(EVERY))
        self.assertIs(type(given), list)
        self.assertEqual({type(number) for number in given}, {int})

    def test_what_is_handed_in_is_not_changed(self):
        calls = line(EVERY + [map_call(full_town())] + EVERY[1:])
        before = list(calls)
        answers(calls)
        self.assertEqual(calls, before)
        self.assertEqual(answers(WatchedList(calls)), answers(calls))

    def test_the_same_list_twice_is_answered_alike(self):
        calls = line(EVERY)
        first = answers(calls)
        kept = list(first)
        first.append(99)
        self.assertEqual(answers(calls), kept)

    def test_nothing_is_kept_from_one_time_to_the_next(self):
        answers(line(EVERY))
        self.assertEqual(answers([1]), [1, -2])
        self.assertEqual(ask((LEAST, 3)), [[-2]])
        self.assertEqual(ask((SIZES,), map_call(full_town()), (HOMES,), (SIZES,)),
                         [[0, 0, 0, 0], [0, 16], [0], [0, 7, 16, 0]])

    def test_sixty_calls_on_the_largest_maps(self):
        source = random.Random(41)
        begin = time.monotonic()
        for call in EVERY[1:]:
            calls = [map_call(random_town(source, 7, 16, 1000)), (WALK, 6) if call[0] == WALK else call]
            self.assertEqual(len(ask(*(calls * 30))), 60)
        self.assertLess(time.monotonic() - begin, 60)

    def test_best_of_many_homes_that_are_passed_often_and_not_found(self):
        begin = time.monotonic()
        loops = (1, [(0, 0, 1, 3)] * 16)
        calls = [map_call(loops)] + [(HOME, 0, 100000, 100000)] * 12 + [(BEST, 0, 200)] * 47
        self.assertEqual(ask(*calls)[13:], [[0, 0, 0]] * 47)
        self.assertLess(time.monotonic() - begin, 60)
