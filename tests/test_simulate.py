"""Operation 6, simulate, and requirement 8."""

import itertools
import unittest

from tests.support import FAR, POLICIES
from tests.support import access, configure, contents, counters, last_answer, request, simulate


class Simulate(unittest.TestCase):
    def test_each_policy(self):
        sequence = [1, 2, 3, 1, 4, 4, 2, 5, 1, 3]
        expected = [
            [7, 3, 5, 1, 3],
            [8, 3, 5, 1, 3],
            [6, 3, 3, 4, 1],
            [7, 3, 1, 4, 3],
            [8, 3, 4, 1, 3],
        ]
        for policy in POLICIES:
            self.assertEqual(request(simulate(3, policy, sequence)), [expected[policy]])

    def test_empty_sequence(self):
        for policy in POLICIES:
            self.assertEqual(request(simulate(3, policy, [])), [[0, 0]])

    def test_capacity_0(self):
        for policy in POLICIES:
            self.assertEqual(request(simulate(0, policy, [1, 1, 2])), [[3, 0]])

    def test_capacity_6(self):
        for policy in POLICIES:
            told = request(simulate(6, policy, [0, 1, 2, 3, 4, 9, 0, 9]))
            self.assertEqual(told, [[6, 6, 0, 1, 2, 3, 4, 9]])

    def test_begins_with_an_empty_cache(self):
        calls = [configure(3, 0), access(1), access(2)]
        self.assertEqual(last_answer(*calls, simulate(3, 0, [1, 2])), [2, 2, 1, 2])

    def test_next_call_is_found_behind_the_sequence(self):
        told = request(simulate(1, 0, [3, 0, 4]), counters(), simulate(1, 0, []), counters())
        self.assertEqual(told, [[3, 1, 4], [0, 0], [0, 0], [0, 0]])

    def test_30_elements(self):
        sequence = [key % 10 for key in range(30)]
        self.assertEqual(request(simulate(1, 0, sequence)), [[30, 1, 9]])
        self.assertEqual(request(simulate(6, 2, [9] * 30)), [[1, 1, 9]])


class SimulateErrors(unittest.TestCase):
    def test_capacity_out_of_range(self):
        for capacity in [-1, 7, -FAR, FAR]:
            self.assertEqual(request(simulate(capacity, 0, [1])), [[-1]])

    def test_policy_out_of_range(self):
        for policy in [-1, 5, -FAR, FAR]:
            self.assertEqual(request(simulate(6, policy, [1])), [[-2]])

    def test_sequence_too_long(self):
        for length in [31, 100]:
            self.assertEqual(request(simulate(6, 4, [0] * length)), [[-4]])

    def test_element_that_is_no_key(self):
        for wrong in [10, 11, 1023]:
            for sequence in [[wrong], [wrong, 1, 2], [1, wrong, 2], [1, 2, wrong]]:
                self.assertEqual(request(simulate(6, 4, sequence)), [[-4]])
        self.assertEqual(request(simulate(0, 0, [10])), [[-4]])

    def test_element_9_and_0_are_keys(self):
        self.assertEqual(request(simulate(2, 0, [9, 0])), [[2, 2, 9, 0]])

    def test_order_of_errors(self):
        self.assertEqual(request(simulate(7, 5, [10])), [[-1]])
        self.assertEqual(request(simulate(7, 0, [0] * 31)), [[-1]])
        self.assertEqual(request(simulate(-1, -1, [])), [[-1]])
        self.assertEqual(request(simulate(6, 5, [10])), [[-2]])
        self.assertEqual(request(simulate(0, -1, [0] * 31)), [[-2]])

    def test_next_call_is_found_behind_an_error(self):
        for wrong in [simulate(7, 0, [0, 1, 2]), simulate(1, 5, [0, 1, 2]), simulate(1, 1, [3] * 100)]:
            told = request(wrong, counters(), simulate(1, 0, [8]))
            self.assertEqual(told[1:], [[0, 0], [1, 1, 8]])


class SameAsAccesses(unittest.TestCase):
    def check(self, capacity, policy, sequence):
        calls = [configure(capacity, policy)] + [access(key) for key in sequence]
        told = request(*calls, contents(), counters(), simulate(capacity, policy, sequence))
        misses = sum(1 for answer in told[1:len(calls)] if answer[0] == 0)
        keys = told[-3][1::3]
        self.assertEqual(told[-2], [len(sequence) - misses, misses])
        self.assertEqual(told[-1], [misses, len(keys)] + keys)

    def test_all_short_sequences(self):
        for sequence in itertools.product(range(4), repeat=5):
            for policy in POLICIES:
                for capacity in range(1, 4):
                    self.check(capacity, policy, sequence)

    def test_long_sequences(self):
        for step in range(1, 40):
            sequence = [place * place * step // 7 % 10 for place in range(30)]
            for policy in POLICIES:
                for capacity in range(7):
                    self.check(capacity, policy, sequence)
