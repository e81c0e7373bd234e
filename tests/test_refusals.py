"""Refusals, which of several is answered, and promise 4."""

import random
import unittest

from tests.helper import (
    ADD, ALONE, BEST, BRIDGE, CHANGE, CHECK, CUTS, EXTRA, FOUND, HEIGHTS, HOME, HOMES, LEAST, MAP, ODD, ONE_STREET,
    PACKS, ROUND, SHARE, SIZES, SQUARE, STREET, TOTAL, WALK,
    ask, ask_on, full_town, map_call, random_town,
)

FAR = 10 ** 18
READERS = ((ODD,), (EXTRA,), (CHECK, [0]), (CUTS,), (PACKS, [1, 1]), (WALK, 0), (ROUND, 0, [0, 0]),
           (SHARE, 0, 1000), (LEAST, 3), (HEIGHTS,), (HOMES,), (FOUND, 0, 0), (BEST, 0, 200), (STREET, 0), (TOTAL,))
CHANGERS = ((HOME, 0, 0, 10), (CHANGE, 0, 7, 2), (ADD, 0, 1, 3, 1))
# Each is out of range by one number or one length.
OUT = (
    [(MAP, n, []) for n in (0, 8, -FAR, FAR)]
    + [(MAP, 2, [a, 1, 5, 1]) for a in (-1, 7, -FAR, FAR)]
    + [(MAP, 2, [0, b, 5, 1]) for b in (-1, 7, -FAR, FAR)]
    + [(MAP, 2, [0, 1, length, 1]) for length in (0, 1001, -FAR, FAR)]
    + [(MAP, 2, [0, 1, 5, often]) for often in (0, 4, -FAR, FAR)]
    + [(MAP, 2, [0, 1, 5, 1, 0, 1, 5, 4]), (MAP, 2, [0, 1, 5, 1, 0, 1, 1001, 1])]
    + [(MAP, 2, ([0, 1, 1, 1] * 17)[:many]) for many in (1, 2, 3, 5, 63, 65, 66, 68)]
    + [(MAP, 2, ([0, 1, 1, 1] * 23)[:90])]
    + [(CHECK, [i]) for i in (-1, 16, -FAR, FAR)] + [(CHECK, [0, 16]), (CHECK, [0] * 17), (CHECK, [0] * 90)]
    + [(PACKS, [1, 1, u, 1]) for u in (-1, 1000001, -FAR, FAR)]
    + [(PACKS, [1, weight, 1, 1]) for weight in (-1, 1000001, -FAR, FAR)]
    + [(PACKS, [1] * many) for many in (1, 3, 59, 61, 62, 90)]
    + [(WALK, p) for p in (-1, 7, -FAR, FAR)]
    + [(ROUND, p, [0, 0]) for p in (-1, 7, -FAR, FAR)]
    + [(ROUND, 0, [0, i]) for i in (-1, 16, -FAR, FAR)] + [(ROUND, 0, [0] * 81), (ROUND, 0, [0] * 90)]
    + [(SHARE, p, 1000) for p in (-1, 7, -FAR, FAR)] + [(SHARE, 0, h) for h in (-1, 100001, -FAR, FAR)]
    + [(LEAST, u) for u in (-1, 128, -FAR, FAR)]
    + [(HOME, p, 0, 10) for p in (-1, 7, -FAR, FAR)]
    + [(HOME, 0, -1, 10), (HOME, 0, -FAR, 10), (HOME, 0, 100001, 100001), (HOME, 0, 100001, FAR)]
    + [(HOME, 0, 0, -1), (HOME, 0, 0, 100001), (HOME, 0, 0, FAR), (HOME, 0, -1, -1), (HOME, 0, -FAR, -FAR)]
    + [(HOME, 0, 1, 0), (HOME, 0, 6, 5), (HOME, 0, 100000, 99999), (HOME, 1, 100000, 0)]
    + [(FOUND, p, 0) for p in (-1, 7, -FAR, FAR)] + [(FOUND, 0, t) for t in (-1, 100001, -FAR, FAR)]
    + [(BEST, p, 0) for p in (-1, 7, -FAR, FAR)] + [(BEST, 0, t) for t in (-1, 201, -FAR, FAR)]
    + [(STREET, i) for i in (-1, 16, -FAR, FAR)] + [(CHANGE, i, 5, 1) for i in (-1, 16, -FAR, FAR)]
    + [(CHANGE, 0, length, 1) for length in (0, 1001, -FAR, FAR)]
    + [(CHANGE, 0, 5, often) for often in (0, 4, -FAR, FAR)]
    + [(ADD, a, 0, 5, 1) for a in (-1, 7, -FAR, FAR)] + [(ADD, 0, b, 5, 1) for b in (-1, 7, -FAR, FAR)]
    + [(ADD, 0, 1, length, 1) for length in (0, 1001, -FAR, FAR)]
    + [(ADD, 0, 1, 5, often) for often in (0, 4, -FAR, FAR)]
)
NO_SUCH = (
    [(MAP, 2, [0, 2, 5, 1]), (MAP, 2, [2, 0, 5, 1]), (MAP, 1, [1, 1, 5, 1]), (MAP, 2, [0, 1, 5, 1, 0, 6, 5, 1])]
    + [(CHECK, [1]), (CHECK, [0, 15]), (WALK, 2), (WALK, 6), (ROUND, 2, [0, 0]), (ROUND, 6, []),
       (ROUND, 0, [0, 1]), (ROUND, 0, [15]), (SHARE, 2, 1000), (SHARE, 6, 1000), (LEAST, 4), (LEAST, 127)]
    + [(HOME, 2, 0, 10), (HOME, 6, 0, 10), (FOUND, 2, 0), (FOUND, 6, 0), (BEST, 2, 0), (BEST, 6, 200)]
    + [(STREET, 1), (STREET, 15), (CHANGE, 1, 5, 1), (CHANGE, 15, 5, 1), (ADD, 2, 0, 5, 1), (ADD, 0, 2, 5, 1),
       (ADD, 6, 6, 5, 1)]
)
NOT_JOINED = [(MAP, 2, []), (MAP, 2, [0, 0, 5, 1]), (MAP, 3, [0, 1, 5, 1]), (MAP, 3, [1, 2, 5, 1]),
              (MAP, 4, [0, 1, 5, 1, 2, 3, 5, 1]), (MAP, 7, [0, 1, 5, 1])]
TOO_LONG = [(SHARE, 0, 4), (SHARE, 1, 0)]
# Fills a map of two places with one street: 16 streets, 12 homes.
FILLING = [(ADD, 1, 0, i + 1, 1 + i % 3) for i in range(15)] + [(HOME, i % 2, 5 * i, 6 * i) for i in range(12)]
NO_ROOM = [(ADD, 0, 1, 5, 1), (ADD, 1, 1, 1, 3), (HOME, 0, 0, 10), (HOME, 1, 100000, 100000)]


class RangeTest(unittest.TestCase):
    def test_out_of_range_with_a_map(self):
        for call in OUT:
            self.assertEqual(ask_on(ONE_STREET, call), [[-1]], call)

    def test_out_of_range_goes_before_no_map(self):
        for call in OUT:
            self.assertEqual(ask(call), [[-1]], call)

    def test_the_ends_of_the_ranges_are_not_refused(self):
        places, streets = full_town()
        ends = [(MAP, 1, []), (MAP, 7, map_call((places, streets))[2]), (MAP, 1, [0, 0, 1, 1]),
                (MAP, 1, [0, 0, 1000, 3]), (MAP, 1, [0, 0, 1, 1] * 16), (CHECK, []), (CHECK, [15] * 16), (PACKS, []),
                (PACKS, [0, 0]), (PACKS, [1000000, 1000000]), (PACKS, [1, 1] * 30), (WALK, 0), (WALK, 6),
                (ROUND, 0, []), (ROUND, 6, [15] * 80), (SHARE, 0, 100000), (SHARE, 6, 100000), (LEAST, 0),
                (LEAST, 127)]
        for call in ends:
            self.assertEqual(ask_on((places, streets), call)[0][0], 0, call)
        self.assertEqual(ask_on(ALONE, (SHARE, 0, 0)), [[0, 0]])

    def test_the_ends_of_the_ranges_of_homes_and_streets_are_not_refused(self):
        town = full_town()
        ends = [(HOME, 0, 0, 0), (HOME, 6, 0, 100000), (HOME, 6, 100000, 100000), (FOUND, 0, 0), (FOUND, 6, 100000),
                (BEST, 0, 0), (BEST, 6, 200), (STREET, 0), (STREET, 15), (CHANGE, 0, 1, 1), (CHANGE, 15, 1000, 3)]
        for call in ends:
            self.assertEqual(ask_on(town, call)[0][0], 0, call)
        town = random_town(random.Random(33), 7, 15)
        for call in ((ADD, 0, 0, 1, 1), (ADD, 6, 6, 1000, 3), (ADD, 0, 6, 1, 3), (ADD, 6, 0, 1000, 1)):
            self.assertEqual(ask_on(town, call, (STREET, 15)), [[0, 15], [0] + list(call[1:])], call)


class OtherRefusalsTest(unittest.TestCase):
    def test_no_map(self):
        for call in READERS + CHANGERS:
            self.assertEqual(ask(call), [[-2]], call)

    def test_sizes_are_told_without_a_map(self):
        self.assertEqual(ask((SIZES,)), [[0, 0, 0, 0]])
        for call in OUT + list(READERS + CHANGERS):
            self.assertEqual(ask(call, (SIZES,))[1], [0, 0, 0, 0], call)

    def test_no_map_behind_a_refused_one(self):
        for call in READERS + CHANGERS:
            self.assertEqual(ask((MAP, 0, []), call, (MAP, 2, [0, 2, 1, 1]), call, (MAP, 2, []), call),
                             [[-1], [-2], [-3], [-2], [-5], [-2]], call)

    def test_no_such_place_street_or_set(self):
        for call in NO_SUCH:
            self.assertEqual(ask_on(ONE_STREET, call), [[-3]], call)
        self.assertEqual(ask_on(ALONE, (CHECK, [0]), (ROUND, 0, [0]), (WALK, 1), (LEAST, 2)), [[-3]] * 4)

    def test_every_number_of_places_and_streets(self):
        source = random.Random(31)
        for places in range(1, 8):
            town = random_town(source, places, places)
            for p in range(7):
                out = ask_on(town, (WALK, p), (ROUND, p, []), (SHARE, p, 1000), (HOME, p, 0, 0), (FOUND, p, 0),
                             (BEST, p, 0), (ADD, p, 0, 1, 1), (ADD, 0, p, 1, 1))
                self.assertEqual([answer[0] for answer in out], [0 if p < places else -3] * 8, (town, p))
            for u in range(128):
                self.assertEqual(ask_on(town, (LEAST, u))[0][0], 0 if u < 2 ** places else -3, (town, u))
            for i in range(16):
                out = ask_on(town, (CHECK, [i]), (ROUND, 0, [i]), (STREET, i), (CHANGE, i, 5, 1))
                self.assertEqual([answer[0] for answer in out], [0 if i < len(town[1]) else -3] * 4, (town, i))

    def test_an_added_street_is_there(self):
        calls = [(STREET, 1), (CHANGE, 1, 5, 1), (CHECK, [1]), (ROUND, 0, [1])]
        out = ask_on(ONE_STREET, *calls, (ADD, 0, 1, 2, 1), *calls)
        self.assertEqual([answer[0] for answer in out], [-3] * 4 + [0] * 5)

    def test_packs_does_not_refuse_other_sets(self):
        self.assertEqual(ask_on(ONE_STREET, (PACKS, [4, 1])), [[0, 0, 1]])

    def test_not_joined(self):
        for call in NOT_JOINED:
            self.assertEqual(ask(call), [[-5]], call)
            self.assertEqual(ask_on(ONE_STREET, call), [[-5]], call)

    def test_a_street_longer_than_the_hours(self):
        for call in TOO_LONG:
            self.assertEqual(ask_on(ONE_STREET, call), [[-6]], call)
        self.assertEqual(ask_on(BRIDGE, (SHARE, 0, 6), (SHARE, 0, 7))[0], [-6])
        self.assertEqual(ask_on(BRIDGE, (SHARE, 0, 6), (SHARE, 0, 7))[1][0], 0)

    def test_a_changed_or_added_street_longer_than_the_hours(self):
        out = ask_on(ONE_STREET, (CHANGE, 0, 4, 1), (SHARE, 0, 4), (SHARE, 0, 3), (ADD, 1, 1, 5, 1), (SHARE, 0, 4))
        self.assertEqual(out, [[0], [0, 2, 1, 4, 1, 4], [-6], [0, 1], [-6]])

    def test_a_seventeenth_street(self):
        self.assertEqual(ask_on(full_town(), (ADD, 0, 0, 1, 1), (ADD, 6, 5, 1000, 3), (SIZES,)),
                         [[-4], [-4], [0, 7, 16, 0]])
        out = ask_on(ONE_STREET, *FILLING[:14], (ADD, 0, 0, 1, 1), (ADD, 0, 0, 1, 1), (SIZES,))
        self.assertEqual(out[14:], [[0, 15], [-4], [0, 2, 16, 0]])

    def test_a_thirteenth_home(self):
        out = ask_on(ALONE, *[(HOME, 0, 0, 0)] * 13, (SIZES,), map_call(ALONE), (HOME, 0, 0, 0))
        self.assertEqual(out, [[0, number] for number in range(12)] + [[-4], [0, 1, 0, 12], [0, 0], [0, 0]])

    def test_room_for_the_one_when_there_is_none_for_the_other(self):
        self.assertEqual(ask_on(full_town(), (HOME, 0, 0, 0)), [[0, 0]])
        self.assertEqual(ask_on(ALONE, *[(HOME, 0, 0, 0)] * 12, (ADD, 0, 0, 1, 1))[12], [0, 0])


class SeveralDueTest(unittest.TestCase):
    def test_out_of_range_goes_before_all(self):
        out = ask_on(ONE_STREET, (MAP, 2, [0, 2, 0, 1]), (MAP, 3, [0, 1, 5, 4]), (MAP, 2, [0, 6, 5]),
                     (CHECK, [15, 16]), (ROUND, 7, [15]), (ROUND, 6, [16]), (SHARE, 6, -1), (SHARE, 7, 0))
        self.assertEqual(out, [[-1]] * 8)
        out = ask_on(ONE_STREET, (HOME, 6, 5, 4), (HOME, 6, 0, 100001), (FOUND, 6, -1), (FOUND, 6, 100001),
                     (BEST, 6, 201), (CHANGE, 15, 0, 1), (CHANGE, 15, 1, 4), (ADD, 6, 7, 1, 1),
                     (ADD, 6, 6, 1001, 1), (ADD, 2, 0, 1, 0))
        self.assertEqual(out, [[-1]] * 10)

    def test_no_map_goes_before_no_such(self):
        self.assertEqual(ask((CHECK, [15]), (WALK, 6), (ROUND, 6, [15]), (SHARE, 6, 0), (LEAST, 127)), [[-2]] * 5)
        out = ask((HOME, 6, 0, 0), (FOUND, 6, 0), (BEST, 6, 0), (STREET, 15), (CHANGE, 15, 1, 1), (ADD, 6, 6, 1, 1))
        self.assertEqual(out, [[-2]] * 6)

    def test_no_such_goes_before_not_joined_and_too_long(self):
        out = ask_on(ONE_STREET, (MAP, 2, [0, 0, 5, 1, 0, 2, 5, 1]), (MAP, 2, [2, 3, 5, 1]), (SHARE, 2, 4))
        self.assertEqual(out, [[-3]] * 3)

    def test_where_there_is_no_room(self):
        calls = [(ADD, 2, 0, 1, 1), (ADD, 0, 6, 1, 1), (HOME, 2, 0, 0), (HOME, 6, 0, 0), (ADD, 6, 0, 0, 1),
                 (ADD, 0, 7, 1, 1), (ADD, 0, 0, 1, 4), (HOME, 0, 1, 0), (HOME, 7, 0, 0), (HOME, 6, 0, 100001)]
        self.assertEqual(ask_on(ONE_STREET, *FILLING, *calls)[27:], [[-3]] * 4 + [[-1]] * 6)


class NothingChangedTest(unittest.TestCase):
    def held_against(self, begin, call, readers):
        with_it = ask_on(ONE_STREET, *begin, call, *readers)[len(begin):]
        self.assertLess(with_it[0][0], 0, call)
        self.assertEqual(len(with_it[0]), 1, call)
        self.assertEqual(with_it[1:], ask_on(ONE_STREET, *begin, *readers)[len(begin):], call)

    def test_each_refused_call_changes_nothing(self):
        readers = list(READERS) + [(SIZES,), (HOME, 1, 7, 8), (ADD, 1, 1, 2, 2), (HOMES,), (STREET, 1), (SIZES,)]
        for call in OUT + NO_SUCH + NOT_JOINED + TOO_LONG:
            self.held_against([], call, readers)
            self.held_against([(HOME, 1, 3, 9), (HOME, 0, 0, 0), (CHANGE, 0, 5, 3)], call, readers)

    def test_each_call_refused_on_a_full_map_changes_nothing(self):
        readers = list(READERS) + [(SIZES,), (STREET, 15)]
        for call in NO_ROOM + OUT + NOT_JOINED:
            self.held_against(FILLING, call, readers)

    def test_lines_without_their_refused_calls_are_answered_alike(self):
        source = random.Random(32)
        calls = OUT + NO_SUCH + NOT_JOINED + TOO_LONG + (list(READERS + CHANGERS) + [(SIZES,)] + NO_ROOM) * 8
        calls += [map_call(ALONE), map_call(ONE_STREET), map_call(SQUARE), map_call(BRIDGE)] * 3
        full = 0
        for at in range(300):
            begin = [map_call(SQUARE)] if at % 3 else [map_call(ONE_STREET)] + FILLING
            chosen = begin + [source.choice(calls) for k in range(source.randint(0, 60 - len(begin)))]
            given = ask(*chosen)
            full += [-4] in given
            kept = [(call, answer) for call, answer in zip(chosen, given) if answer[0] == 0]
            self.assertEqual(ask(*[call for call, answer in kept]), [answer for call, answer in kept])
        self.assertGreater(full, 5)
