"""Operation 13, anomaly."""

import unittest

from tests.support import FAR, FIRST_IN, LEAST_RECENT, POLICIES, SECOND_CHANCE, Model
from tests.support import anomaly, asked, counters, mixed_numbers, request, sequences_of

BELADY = [0, 1, 2, 3, 0, 1, 4, 0, 1, 2, 3, 4]


class Anomaly(unittest.TestCase):
    def test_first_in_first_out(self):
        self.assertEqual(request(anomaly(FIRST_IN, 3, BELADY)), [[1, 12, 9, 10]])

    def test_none(self):
        self.assertEqual(request(anomaly(LEAST_RECENT, 3, BELADY)), [[0]])
        self.assertEqual(request(anomaly(FIRST_IN, 2, BELADY)), [[0]])
        self.assertEqual(request(anomaly(FIRST_IN, 3, BELADY[:11])), [[0]])

    def test_shortest_prefix(self):
        self.assertEqual(request(anomaly(FIRST_IN, 3, BELADY + [4, 0, 5, 6])), [[1, 12, 9, 10]])

    def test_empty_sequence(self):
        for policy in POLICIES:
            self.assertEqual(request(*[anomaly(policy, capacity, []) for capacity in range(7)]), [[0]] * 7)

    def test_capacity_0_and_1(self):
        for policy in POLICIES:
            for capacity in [0, 1]:
                self.assertEqual(request(anomaly(policy, capacity, [0, 1, 0, 0, 2, 1, 1, 0])), [[0]])

    def test_capacity_6_is_compared_with_7(self):
        # The last 2 is still cached with capacity 6, but was evicted for the 1 with capacity 7.
        sequence = [8, 0, 0, 3, 9, 3, 5, 0, 8, 5, 9, 6, 2, 7, 5, 1, 2]
        self.assertEqual(request(anomaly(SECOND_CHANCE, 6, sequence)), [[1, 17, 9, 10]])
        self.assertEqual(request(anomaly(SECOND_CHANCE, 6, sequence[:16])), [[0]])

    def test_30_elements(self):
        self.assertEqual(request(anomaly(FIRST_IN, 3, [9] * 18 + BELADY)), [[1, 30, 10, 11]])
        self.assertEqual(request(anomaly(FIRST_IN, 3, BELADY + [9] * 18)), [[1, 12, 9, 10]])

    def test_next_call_is_found_behind_the_sequence(self):
        told = request(anomaly(0, 3, BELADY), counters(), anomaly(0, 1, []), counters())
        self.assertEqual(told, [[1, 12, 9, 10], [0, 0], [0], [0, 0]])


class AgainstTheModel(unittest.TestCase):
    def misses(self, policy, capacity, sequence):
        """The misses on each prefix, from the empty one on."""
        model = Model(capacity, policy)
        found = [0]
        for key in sequence:
            model.access(key)
            found.append(model.counters()[1])
        return found

    def expected(self, policy, capacity, sequence):
        smaller = self.misses(policy, capacity, sequence)
        larger = self.misses(policy, capacity + 1, sequence)
        lengths = [length for length in range(len(smaller)) if larger[length] > smaller[length]]
        if not lengths:
            return [0]
        return [1, lengths[0], smaller[lengths[0]], larger[lengths[0]]]

    def check(self, kinds):
        told = asked(anomaly(*kind) for kind in kinds)
        for kind, answer in zip(kinds, told, strict=True):
            self.assertEqual(answer, self.expected(*kind), kind)
        return [kind for kind, answer in zip(kinds, told, strict=True) if answer != [0]]

    def test_all_short_sequences(self):
        self.check([(policy, capacity, sequence) for policy in POLICIES for capacity in range(3)
                    for sequence in sequences_of(3, 5)])

    def test_long_sequences(self):
        self.check([(policy, capacity, mixed_numbers(seed, 30, capacity + 3))
                    for seed in range(25) for policy in POLICIES for capacity in range(7)])

    def test_sequences_with_anomalies(self):
        kinds = [(SECOND_CHANCE, capacity, mixed_numbers(seed, 30, 10))
                 for seed in range(200) for capacity in range(3, 7)]
        found = self.check(kinds)
        self.assertEqual({capacity for _, capacity, _ in found}, {3, 4, 5, 6})


class AnomalyErrors(unittest.TestCase):
    def test_capacity_out_of_range(self):
        for capacity in [-1, 7, -FAR, FAR]:
            self.assertEqual(request(anomaly(0, capacity, [1])), [[-1]])

    def test_policy_out_of_range(self):
        for policy in [-1, 5, -FAR, FAR]:
            self.assertEqual(request(anomaly(policy, 6, [1])), [[-2]])

    def test_sequence_too_long(self):
        for length in [31, 100]:
            self.assertEqual(request(anomaly(4, 6, [0] * length), anomaly(0, 0, [0] * length)), [[-4], [-4]])

    def test_element_that_is_no_key(self):
        for wrong in [10, 11, 1023]:
            for sequence in [[wrong], [wrong, 1, 2], [1, wrong, 2], [1, 2, wrong], BELADY + [wrong]]:
                self.assertEqual(request(anomaly(0, 3, sequence)), [[-4]])

    def test_element_9_and_0_are_keys(self):
        self.assertEqual(request(anomaly(0, 1, [9, 0])), [[0]])

    def test_order_of_errors(self):
        self.assertEqual(request(anomaly(5, 7, [10]), anomaly(5, -1, []), anomaly(0, 7, [0] * 31)), [[-1]] * 3)
        self.assertEqual(request(anomaly(5, 6, [10]), anomaly(-1, 0, [0] * 31)), [[-2]] * 2)

    def test_policy_lies_before_the_capacity(self):
        self.assertEqual(request(anomaly(5, 4, [1]), anomaly(4, 5, [1]), anomaly(0, 6, [1])), [[-2], [0], [0]])

    def test_next_call_is_found_behind_an_error(self):
        for wrong in [anomaly(0, 7, [0, 1, 2]), anomaly(5, 1, [0, 1, 2]), anomaly(1, 1, [3] * 100)]:
            self.assertEqual(request(wrong, counters(), anomaly(0, 1, [8]))[1:], [[0, 0], [0]])
