"""Operation 9, replay."""

import unittest

from tests.support import FAR
from tests.support import asked, counters, every_replay, replay, request, sequences_of


class Replay(unittest.TestCase):
    def test_valid_evictions(self):
        self.assertEqual(request(replay(2, [3, 5, 3, 7, 3], [5])), [[1, 3]])
        self.assertEqual(request(replay(2, [3, 5, 3, 7, 3], [3, 5])), [[1, 4]])
        self.assertEqual(request(replay(2, [3, 5, 3, 7, 3], [3, 7])), [[1, 4]])
        self.assertEqual(request(replay(1, [1, 2, 1, 2], [1, 2, 1])), [[1, 4]])

    def test_eviction_that_is_not_cached(self):
        self.assertEqual(request(replay(2, [3, 5, 3, 7, 3], [7])), [[0, 3]])
        self.assertEqual(request(replay(2, [3, 5, 3, 7, 3], [4])), [[0, 3]])
        self.assertEqual(request(replay(2, [3, 5, 3, 7, 3], [3, 3])), [[0, 4]])
        self.assertEqual(request(replay(2, [1, 2, 3, 4, 5], [1, 1, 2])), [[0, 3]])

    def test_key_that_was_evicted_can_come_back(self):
        self.assertEqual(request(replay(2, [1, 2, 3, 1, 4], [1, 2, 1])), [[1, 5]])

    def test_no_evictions_left(self):
        self.assertEqual(request(replay(2, [3, 5, 3, 7, 3], [])), [[0, 3]])
        self.assertEqual(request(replay(2, [3, 5, 3, 7, 3], [3])), [[0, 4]])
        self.assertEqual(request(replay(1, [1, 2, 3], [1])), [[0, 2]])

    def test_evictions_left_at_the_end(self):
        self.assertEqual(request(replay(2, [3, 5, 3, 7, 3], [5, 3])), [[0, 5]])
        self.assertEqual(request(replay(2, [3, 5, 3, 7, 3], [5, 9, 9, 9])), [[0, 5]])
        self.assertEqual(request(replay(2, [3, 5, 3], [3])), [[0, 3]])

    def test_first_failure_counts(self):
        self.assertEqual(request(replay(1, [1, 2, 3, 4], [9, 9, 9])), [[0, 1]])
        self.assertEqual(request(replay(1, [1, 2, 3, 4, 5], [1, 9, 3, 4, 5, 6])), [[0, 2]])

    def test_hits_evict_nothing(self):
        self.assertEqual(request(replay(2, [3, 5, 3, 5, 5, 3], [])), [[1, 2]])
        self.assertEqual(request(replay(2, [3, 5, 3, 5, 7, 7, 5], [3])), [[1, 3]])

    def test_capacity_0_evicts_nothing(self):
        self.assertEqual(request(replay(0, [1, 1, 2], [])), [[1, 3]])
        self.assertEqual(request(replay(0, [1, 1, 2], [1])), [[0, 3]])
        self.assertEqual(request(replay(0, [], [1])), [[0, 0]])

    def test_capacity_6(self):
        sequence = [0, 1, 2, 3, 4, 5, 9, 0]
        self.assertEqual(request(replay(6, sequence, [5])), [[1, 7]])
        self.assertEqual(request(replay(6, sequence, [0])), [[0, 7]])
        self.assertEqual(request(replay(6, sequence, [0, 9])), [[1, 8]])
        self.assertEqual(request(replay(6, sequence[:6], [])), [[1, 6]])

    def test_empty_sequence(self):
        for capacity in range(7):
            self.assertEqual(request(replay(capacity, [], [])), [[1, 0]])
            self.assertEqual(request(replay(capacity, [], [3])), [[0, 0]])

    def test_30_elements(self):
        sequence = [0, 1, 2] * 10
        self.assertEqual(request(replay(1, sequence, sequence[:29])), [[1, 30]])
        self.assertEqual(request(replay(1, sequence, sequence)), [[0, 30]])
        self.assertEqual(request(replay(1, sequence, sequence[:28])), [[0, 29]])
        self.assertEqual(request(replay(3, sequence, [0] * 30)), [[0, 30]])

    def test_next_call_is_found_behind_both_rows(self):
        told = request(replay(1, [3, 0], [3]), counters(), replay(1, [], []), counters())
        self.assertEqual(told, [[1, 2], [0, 0], [1, 0], [0, 0]])


class AgainstAllEvictions(unittest.TestCase):
    def test_every_list_of_evictions(self):
        lists = [evictions for length in range(4) for evictions in sequences_of(3, length)]
        for sequence in sequences_of(3, 5):
            for capacity in range(4):
                valid = {tuple(evictions): misses for misses, evictions in every_replay(capacity, sequence)}
                told = asked(replay(capacity, sequence, evictions) for evictions in lists)
                for evictions, answer in zip(lists, told, strict=True):
                    if tuple(evictions) in valid:
                        self.assertEqual(answer, [1, valid[tuple(evictions)]])
                    else:
                        self.assertEqual(answer, [0, self.failure(capacity, sequence, evictions)])

    def failure(self, capacity, sequence, evictions):
        """Some evictions go well up to a position just if they begin as some that are valid till there do."""
        for position in range(len(sequence)):
            prefix = sequence[:position + 1]
            begun = [tail for _, tail in every_replay(capacity, prefix) if evictions[:len(tail)] == tail]
            if not begun:
                return position
        return len(sequence)


class ReplayErrors(unittest.TestCase):
    def test_capacity_out_of_range(self):
        for capacity in [-1, 7, -FAR, FAR]:
            self.assertEqual(request(replay(capacity, [1], [])), [[-1]])

    def test_sequence_too_long(self):
        for length in [31, 100]:
            self.assertEqual(request(replay(6, [0] * length, []), replay(0, [0] * length, [])), [[-4], [-4]])

    def test_evictions_too_long(self):
        for length in [31, 100]:
            self.assertEqual(request(replay(6, [0], [0] * length), replay(0, [], [0] * length)), [[-4], [-4]])

    def test_element_that_is_no_key(self):
        for wrong in [10, 11, 1023]:
            for row in [[wrong], [wrong, 1, 2], [1, wrong, 2], [1, 2, wrong]]:
                self.assertEqual(request(replay(6, row, []), replay(1, [0, 1, 2, 3], row)), [[-4], [-4]])
        # An eviction that is no key is an error also where it would not be asked for.
        self.assertEqual(request(replay(6, [], [10]), replay(1, [1, 2, 3], [9, 10])), [[-4], [-4]])

    def test_element_9_and_0_are_keys(self):
        self.assertEqual(request(replay(1, [9, 0, 9], [9, 0])), [[1, 3]])

    def test_order_of_errors(self):
        told = request(replay(7, [10], []), replay(-1, [], [10]), replay(7, [0] * 31, [0] * 31))
        self.assertEqual(told, [[-1], [-1], [-1]])
        self.assertEqual(request(replay(1, [10], [10]), replay(1, [0] * 31, [10])), [[-4], [-4]])

    def test_next_call_is_found_behind_an_error(self):
        wrong_calls = [replay(7, [0, 1, 2], [1, 2]), replay(1, [10, 1], [2, 3]), replay(1, [3] * 100, [3] * 100),
                       replay(1, [3, 4], [10, 4, 3])]
        for wrong in wrong_calls:
            self.assertEqual(request(wrong, counters(), replay(1, [8], []))[1:], [[0, 0], [1, 1]])
