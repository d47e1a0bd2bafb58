"""Operation 10, phases."""

import unittest

from tests.support import FAR
from tests.support import asked, counters, mixed_numbers, phases, request, sequences_of


class Phases(unittest.TestCase):
    def test_starts_where_the_distinct_keys_would_exceed_the_capacity(self):
        self.assertEqual(request(phases(2, [3, 5, 3, 7, 3])), [[2, 0, 3]])
        self.assertEqual(request(phases(2, [1, 2, 3, 4, 5])), [[3, 0, 2, 4]])
        self.assertEqual(request(phases(3, [1, 2, 1, 3, 2, 4, 1, 4, 3, 5])), [[3, 0, 5, 9]])

    def test_keys_of_an_earlier_phase_count_anew(self):
        self.assertEqual(request(phases(2, [1, 2, 3, 1, 2, 3])), [[3, 0, 2, 4]])

    def test_one_phase(self):
        self.assertEqual(request(phases(3, [4, 9, 0, 4, 9])), [[1, 0]])
        self.assertEqual(request(phases(1, [7])), [[1, 0]])

    def test_capacity_1(self):
        self.assertEqual(request(phases(1, [5, 5, 6, 5, 5])), [[3, 0, 2, 3]])

    def test_capacity_6(self):
        self.assertEqual(request(phases(6, [0, 1, 2, 3, 4, 5, 0])), [[1, 0]])
        self.assertEqual(request(phases(6, [0, 1, 2, 3, 4, 5, 0, 6, 0])), [[2, 0, 7]])

    def test_empty_sequence_has_none(self):
        self.assertEqual(request(*[phases(capacity, []) for capacity in range(1, 7)]), [[0]] * 6)

    def test_30_elements(self):
        self.assertEqual(request(phases(1, [0, 9] * 15)), [[30] + list(range(30))])
        self.assertEqual(request(phases(6, [9] * 30)), [[1, 0]])

    def test_next_call_is_found_behind_the_sequence(self):
        told = request(phases(1, [3, 0, 4]), counters(), phases(1, []), counters())
        self.assertEqual(told, [[3, 0, 1, 2], [0, 0], [0], [0, 0]])


class AgainstTheWords(unittest.TestCase):
    """Each phase is the longest stretch from its start with no more distinct keys than the capacity."""

    def expected(self, capacity, sequence):
        starts, start = [], 0
        while start < len(sequence):
            starts.append(start)
            ends = [end for end in range(start + 1, len(sequence) + 1) if len(set(sequence[start:end])) <= capacity]
            start = max(ends)
        return [len(starts)] + starts

    def check(self, kinds):
        told = asked(phases(capacity, sequence) for capacity, sequence in kinds)
        for (capacity, sequence), answer in zip(kinds, told, strict=True):
            self.assertEqual(answer, self.expected(capacity, sequence), f"{capacity} {sequence}")

    def test_all_short_sequences(self):
        for length in range(7):
            self.check([(capacity, sequence) for capacity in range(1, 5) for sequence in sequences_of(4, length)])

    def test_long_sequences(self):
        self.check([(capacity, mixed_numbers(seed, 30, capacity + 4))
                    for seed in range(100) for capacity in range(1, 7)])


class PhasesErrors(unittest.TestCase):
    def test_capacity_out_of_range(self):
        for capacity in [-1, 7, -FAR, FAR]:
            self.assertEqual(request(phases(capacity, [1])), [[-1]])

    def test_capacity_0(self):
        self.assertEqual(request(phases(0, [1]), phases(0, [])), [[-5], [-5]])

    def test_sequence_too_long(self):
        for length in [31, 100]:
            self.assertEqual(request(phases(6, [0] * length), phases(1, [0] * length)), [[-4], [-4]])

    def test_element_that_is_no_key(self):
        for wrong in [10, 11, 1023]:
            for sequence in [[wrong], [wrong, 1, 2], [1, wrong, 2], [1, 2, wrong]]:
                self.assertEqual(request(phases(6, sequence), phases(1, sequence)), [[-4], [-4]])

    def test_element_9_and_0_are_keys(self):
        self.assertEqual(request(phases(1, [9, 0])), [[2, 0, 1]])

    def test_order_of_errors(self):
        self.assertEqual(request(phases(7, [10]), phases(-1, [0] * 31)), [[-1], [-1]])
        self.assertEqual(request(phases(0, [10]), phases(0, [0] * 31)), [[-5], [-5]])

    def test_next_call_is_found_behind_an_error(self):
        for wrong in [phases(7, [0, 1, 2]), phases(0, [0, 1, 2]), phases(1, [10, 1]), phases(1, [3] * 100)]:
            self.assertEqual(request(wrong, counters(), phases(1, [8]))[1:], [[0, 0], [1, 0]])
