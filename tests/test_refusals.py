"""Refusals, which of several is answered, and promise 4."""

import random
import unittest

from tests.helper import (
    ALONE, BRIDGE, CHECK, CUTS, EXTRA, LEAST, MAP, ODD, ONE_STREET, PACKS, ROUND, SHARE, SQUARE, WALK,
    ask, ask_on, full_town, map_call, random_town,
)

FAR = 10 ** 18
READERS = ((ODD,), (EXTRA,), (CHECK, [0]), (CUTS,), (PACKS, [1, 1]), (WALK, 0), (ROUND, 0, [0, 0]),
           (SHARE, 0, 1000), (LEAST, 3))
# Each is out of range by one number or one length.
OUT = (
    [(MAP, n, []) for n in (0, 8, -FAR, FAR)]
    + [(MAP, 2, [a, 1, 5, 1]) for a in (-1, 7, -FAR, FAR)]
    + [(MAP, 2, [0, b, 5, 1]) for b in (-1, 7, -FAR, FAR)]
    + [(MAP, 2, [0, 1, length, 1]) for length in (0, 1001, -FAR, FAR)]
    + [(MAP, 2, [0, 1, 5, often]) for often in (0, 4, -FAR, FAR)]
    + [(MAP, 2, [0, 1, 5, 1, 0, 1, 5, 4]), (MAP, 2, [0, 1, 5, 1, 0, 1, 1001, 1])]
    + [(MAP, 2, ([0, 1, 1, 1] * 17)[:many]) for many in (1, 2, 3, 5, 63, 65, 66, 68)]
    + [(MAP, 2, ([0, 1, 1, 1] * 23)[:90])]
    + [(CHECK, [i]) for i in (-1, 16, -FAR, FAR)] + [(CHECK, [0, 16]), (CHECK, [0] * 17), (CHECK, [0] * 90)]
    + [(PACKS, [1, 1, u, 1]) for u in (-1, 1000001, -FAR, FAR)]
    + [(PACKS, [1, weight, 1, 1]) for weight in (-1, 1000001, -FAR, FAR)]
    + [(PACKS, [1] * many) for many in (1, 3, 59, 61, 62, 90)]
    + [(WALK, p) for p in (-1, 7, -FAR, FAR)]
    + [(ROUND, p, [0, 0]) for p in (-1, 7, -FAR, FAR)]
    + [(ROUND, 0, [0, i]) for i in (-1, 16, -FAR, FAR)] + [(ROUND, 0, [0] * 81), (ROUND, 0, [0] * 90)]
    + [(SHARE, p, 1000) for p in (-1, 7, -FAR, FAR)] + [(SHARE, 0, h) for h in (-1, 100001, -FAR, FAR)]
    + [(LEAST, u) for u in (-1, 128, -FAR, FAR)]
)
NO_SUCH = (
    [(MAP, 2, [0, 2, 5, 1]), (MAP, 2, [2, 0, 5, 1]), (MAP, 1, [1, 1, 5, 1]), (MAP, 2, [0, 1, 5, 1, 0, 6, 5, 1])]
    + [(CHECK, [1]), (CHECK, [0, 15]), (WALK, 2), (WALK, 6), (ROUND, 2, [0, 0]), (ROUND, 6, []),
       (ROUND, 0, [0, 1]), (ROUND, 0, [15]), (SHARE, 2, 1000), (SHARE, 6, 1000), (LEAST, 4), (LEAST, 127)]
)
NOT_JOINED = [(MAP, 2, []), (MAP, 2, [0, 0, 5, 1]), (MAP, 3, [0, 1, 5, 1]), (MAP, 3, [1, 2, 5, 1]),
              (MAP, 4, [0, 1, 5, 1, 2, 3, 5, 1]), (MAP, 7, [0, 1, 5, 1])]
TOO_LONG = [(SHARE, 0, 4), (SHARE, 1, 0)]


class RangeTest(unittest.TestCase):
    def test_out_of_range_with_a_map(self):
        for call in OUT:
            self.assertEqual(ask_on(ONE_STREET, call), [[-1]], call)

    def test_out_of_range_goes_before_no_map(self):
        for call in OUT:
            self.assertEqual(ask(call), [[-1]], call)

    def test_the_ends_of_the_ranges_are_not_refused(self):
        places, streets = full_town()
        ends = [(MAP, 1, []), (MAP, 7, map_call((places, streets))[2]), (MAP, 1, [0, 0, 1, 1]),
                (MAP, 1, [0, 0, 1000, 3]), (MAP, 1, [0, 0, 1, 1] * 16), (CHECK, []), (CHECK, [15] * 16), (PACKS, []),
                (PACKS, [0, 0]), (PACKS, [1000000, 1000000]), (PACKS, [1, 1] * 30), (WALK, 0), (WALK, 6),
                (ROUND, 0, []), (ROUND, 6, [15] * 80), (SHARE, 0, 100000), (SHARE, 6, 100000), (LEAST, 0),
                (LEAST, 127)]
        for call in ends:
            self.assertEqual(ask_on((places, streets), call)[0][0], 0, call)
        self.assertEqual(ask_on(ALONE, (SHARE, 0, 0)), [[0, 0]])


class OtherRefusalsTest(unittest.TestCase):
    def test_no_map(self):
        for call in READERS:
            self.assertEqual(ask(call), [[-2]], call)

    def test_no_map_behind_a_refused_one(self):
        for call in READERS:
            self.assertEqual(ask((MAP, 0, []), call, (MAP, 2, [0, 2, 1, 1]), call, (MAP, 2, []), call),
                             [[-1], [-2], [-3], [-2], [-5], [-2]], call)

    def test_no_such_place_street_or_set(self):
        for call in NO_SUCH:
            self.assertEqual(ask_on(ONE_STREET, call), [[-3]], call)
        self.assertEqual(ask_on(ALONE, (CHECK, [0]), (ROUND, 0, [0]), (WALK, 1), (LEAST, 2)), [[-3]] * 4)

    def test_every_number_of_places_and_streets(self):
        source = random.Random(31)
        for places in range(1, 8):
            town = random_town(source, places, places)
            for p in range(7):
                out = ask_on(town, (WALK, p), (ROUND, p, []), (SHARE, p, 1000))
                self.assertEqual([answer[0] for answer in out], [0 if p < places else -3] * 3, (town, p))
            for u in range(128):
                self.assertEqual(ask_on(town, (LEAST, u))[0][0], 0 if u < 2 ** places else -3, (town, u))
            for i in range(16):
                out = ask_on(town, (CHECK, [i]), (ROUND, 0, [i]))
                self.assertEqual([answer[0] for answer in out], [0 if i < len(town[1]) else -3] * 2, (town, i))

    def test_packs_does_not_refuse_other_sets(self):
        self.assertEqual(ask_on(ONE_STREET, (PACKS, [4, 1])), [[0, 0, 1]])

    def test_not_joined(self):
        for call in NOT_JOINED:
            self.assertEqual(ask(call), [[-5]], call)
            self.assertEqual(ask_on(ONE_STREET, call), [[-5]], call)

    def test_a_street_longer_than_the_hours(self):
        for call in TOO_LONG:
            self.assertEqual(ask_on(ONE_STREET, call), [[-6]], call)
        self.assertEqual(ask_on(BRIDGE, (SHARE, 0, 6), (SHARE, 0, 7))[0], [-6])
        self.assertEqual(ask_on(BRIDGE, (SHARE, 0, 6), (SHARE, 0, 7))[1][0], 0)


class SeveralDueTest(unittest.TestCase):
    def test_out_of_range_goes_before_all(self):
        out = ask_on(ONE_STREET, (MAP, 2, [0, 2, 0, 1]), (MAP, 3, [0, 1, 5, 4]), (MAP, 2, [0, 6, 5]),
                     (CHECK, [15, 16]), (ROUND, 7, [15]), (ROUND, 6, [16]), (SHARE, 6, -1), (SHARE, 7, 0))
        self.assertEqual(out, [[-1]] * 8)

    def test_no_map_goes_before_no_such(self):
        self.assertEqual(ask((CHECK, [15]), (WALK, 6), (ROUND, 6, [15]), (SHARE, 6, 0), (LEAST, 127)), [[-2]] * 5)

    def test_no_such_goes_before_not_joined_and_too_long(self):
        out = ask_on(ONE_STREET, (MAP, 2, [0, 0, 5, 1, 0, 2, 5, 1]), (MAP, 2, [2, 3, 5, 1]), (SHARE, 2, 4))
        self.assertEqual(out, [[-3]] * 3)


class NothingChangedTest(unittest.TestCase):
    def test_each_refused_call_changes_nothing(self):
        readers = list(READERS)
        for call in OUT + NO_SUCH + NOT_JOINED + TOO_LONG:
            with_it = ask_on(ONE_STREET, call, *readers)
            self.assertLess(with_it[0][0], 0, call)
            self.assertEqual(len(with_it[0]), 1, call)
            self.assertEqual(with_it[1:], ask_on(ONE_STREET, *readers), call)

    def test_lines_without_their_refused_calls_are_answered_alike(self):
        source = random.Random(32)
        calls = list(READERS) + OUT + NO_SUCH + NOT_JOINED + TOO_LONG + [map_call(ALONE), map_call(ONE_STREET),
                                                                      map_call(SQUARE), map_call(BRIDGE)] * 5
        for at in range(200):
            chosen = [source.choice(calls) for k in range(source.randint(1, 60))]
            given = ask(*chosen)
            kept = [(call, answer) for call, answer in zip(chosen, given) if answer[0] == 0]
            self.assertEqual(ask(*[call for call, answer in kept]), [answer for call, answer in kept])
