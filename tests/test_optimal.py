"""Operation 7, optimal."""

import unittest

from tests.support import FAR, MOST_CALLS
from tests.support import asked, counters, every_replay, mixed_numbers, optimal, request, sequences_of


class Optimal(unittest.TestCase):
    def test_evicts_what_is_not_needed_again(self):
        self.assertEqual(request(optimal(2, [3, 5, 3, 7, 3])), [[3, 1, 5]])
        self.assertEqual(request(optimal(2, [1, 2, 3, 1, 2])), [[4, 2, 1, 3]])
        self.assertEqual(request(optimal(3, [0, 1, 2, 3, 0, 1, 4, 0, 1, 2, 3, 4])), [[7, 4, 2, 1, 0, 1]])

    def test_smallest_of_several_evictions(self):
        self.assertEqual(request(optimal(3, [8, 2, 5, 9])), [[4, 1, 2]])
        self.assertEqual(request(optimal(2, [4, 3, 2, 1])), [[4, 2, 3, 2]])
        # Evicting 0 or 1 at first costs one more miss either way, and 0 is the smaller one.
        self.assertEqual(request(optimal(2, [0, 1, 2, 0, 1])), [[4, 2, 0, 2]])

    def test_a_smaller_eviction_that_costs_a_miss_is_not_taken(self):
        self.assertEqual(request(optimal(2, [0, 1, 2, 0])), [[3, 1, 1]])
        self.assertEqual(request(optimal(2, [0, 1, 2, 0, 2, 0])), [[3, 1, 1]])

    def test_the_first_eviction_counts_before_the_later_ones(self):
        self.assertEqual(request(optimal(2, [0, 3, 1, 0, 3])), [[4, 2, 0, 1]])
        self.assertEqual(request(optimal(1, [9, 0, 9, 0])), [[4, 3, 9, 0, 9]])

    def test_no_evictions_while_there_is_room(self):
        self.assertEqual(request(optimal(3, [4, 9, 0, 4, 9])), [[3, 0]])
        self.assertEqual(request(optimal(2, [4, 4])), [[1, 0]])

    def test_capacity_0(self):
        self.assertEqual(request(optimal(0, [1, 1, 2])), [[3, 0]])
        self.assertEqual(request(optimal(0, [])), [[0, 0]])

    def test_capacity_1(self):
        self.assertEqual(request(optimal(1, [5, 5, 6, 5])), [[3, 2, 5, 6]])

    def test_capacity_6(self):
        self.assertEqual(request(optimal(6, [9, 8, 7, 6, 5, 4, 9])), [[6, 0]])
        self.assertEqual(request(optimal(6, [9, 8, 7, 6, 5, 4, 3, 4, 5])), [[7, 1, 6]])

    def test_empty_sequence(self):
        self.assertEqual(request(*[optimal(capacity, []) for capacity in range(7)]), [[0, 0]] * 7)

    def test_30_elements(self):
        self.assertEqual(request(optimal(1, [0, 9] * 15)), [[30, 29] + [0, 9] * 14 + [0]])
        self.assertEqual(request(optimal(6, [9] * 30)), [[1, 0]])
        self.assertEqual(request(optimal(0, [9] * 30)), [[30, 0]])

    def test_next_call_is_found_behind_the_sequence(self):
        told = request(optimal(1, [3, 0, 4]), counters(), optimal(1, []), counters())
        self.assertEqual(told, [[3, 2, 3, 0], [0, 0], [0, 0], [0, 0]])


class AgainstAllEvictions(unittest.TestCase):
    def check(self, kinds):
        told = asked(optimal(capacity, sequence) for capacity, sequence in kinds)
        for (capacity, sequence), answer in zip(kinds, told, strict=True):
            misses, evictions = min(every_replay(capacity, sequence))
            self.assertEqual(answer, [misses, len(evictions)] + evictions, f"{capacity} {sequence}")

    def test_all_short_sequences(self):
        for length in range(7):
            self.check([(capacity, sequence) for capacity in range(5) for sequence in sequences_of(4, length)])

    def test_longer_sequences(self):
        kinds = []
        for seed in range(150):
            for capacity in range(7):
                kinds.append((capacity, mixed_numbers(seed, 11, capacity + 3)))
        self.check(kinds)


class OptimalErrors(unittest.TestCase):
    def test_capacity_out_of_range(self):
        for capacity in [-1, 7, -FAR, FAR]:
            self.assertEqual(request(optimal(capacity, [1])), [[-1]])

    def test_sequence_too_long(self):
        for length in [31, 100]:
            self.assertEqual(request(optimal(6, [0] * length), optimal(0, [0] * length)), [[-4], [-4]])

    def test_element_that_is_no_key(self):
        for wrong in [10, 11, 1023]:
            for sequence in [[wrong], [wrong, 1, 2], [1, wrong, 2], [1, 2, wrong]]:
                self.assertEqual(request(optimal(6, sequence), optimal(0, sequence)), [[-4], [-4]])

    def test_element_9_and_0_are_keys(self):
        self.assertEqual(request(optimal(1, [9, 0])), [[2, 1, 9]])

    def test_order_of_errors(self):
        self.assertEqual(request(optimal(7, [10]), optimal(-1, [0] * 31)), [[-1], [-1]])

    def test_next_call_is_found_behind_an_error(self):
        for wrong in [optimal(7, [0, 1, 2]), optimal(1, [10, 1, 2]), optimal(1, [3] * 100)]:
            self.assertEqual(request(wrong, counters(), optimal(1, [8]))[1:], [[0, 0], [1, 0]])

    def test_60_calls_with_long_rows(self):
        self.assertEqual(request(*[optimal(6, [1023] * 100)] * MOST_CALLS), [[-4]] * MOST_CALLS)
