"""Requests with the longest work that the document allows are answered within some seconds."""

import time
import unittest

from tests.support import MOST_CALLS, POLICIES
from tests.support import anomaly, farthest, mixed_numbers, optimal, phases, replay, request, separate, simulate, worst

SECONDS = 10


class Speed(unittest.TestCase):
    def check(self, calls):
        calls = list(calls)
        self.assertEqual(len(calls), MOST_CALLS)
        before = time.process_time()
        told = request(*calls)
        self.assertLess(time.process_time() - before, SECONDS)
        self.assertEqual([answer for answer in told if answer[0] < 0], [])

    def sequences(self):
        """Sequences of 30 keys with as many keys as there are, so that much can be cached."""
        around = [place % 10 for place in range(30)]
        return [around] + [mixed_numbers(seed, 30, 10) for seed in range(MOST_CALLS - 1)]

    def test_optimal_at_each_capacity(self):
        for capacity in range(7):
            self.check(optimal(capacity, sequence) for sequence in self.sequences())
            self.check([optimal(capacity, self.sequences()[0])] * MOST_CALLS)

    def test_separate(self):
        for capacity in range(7):
            self.check(separate(place % 5, place // 5 % 5, capacity, 4, 6) for place in range(MOST_CALLS))

    def test_worst(self):
        for capacity in range(7):
            self.check(worst(place % 5, capacity, 3, 6) for place in range(MOST_CALLS))

    def test_the_other_calls(self):
        for capacity in range(1, 7):
            self.check(farthest(capacity, sequence) for sequence in self.sequences())
            self.check(phases(capacity, sequence) for sequence in self.sequences())
            self.check(replay(capacity, sequence, sequence) for sequence in self.sequences())
            for policy in POLICIES:
                self.check(simulate(capacity, policy, sequence) for sequence in self.sequences())
                self.check(anomaly(policy, capacity, sequence) for sequence in self.sequences())
