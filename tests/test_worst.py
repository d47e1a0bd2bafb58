"""Operation 12, worst, and what requirement 7 says of it."""

import unittest

from tests.support import FAR, LEAST_RECENT, MOST_RECENT, POLICIES
from tests.support import asked, counters, every_replay, request, sequences_of, simulate, worst


class Worst(unittest.TestCase):
    def test_ordinary_inputs(self):
        self.assertEqual(request(worst(LEAST_RECENT, 2, 3, 6)), [[6, 4, 6, 0, 1, 2, 0, 1, 2]])
        self.assertEqual(request(worst(MOST_RECENT, 2, 3, 6)), [[6, 3, 6, 0, 1, 2, 1, 2, 1]])
        self.assertEqual(request(worst(LEAST_RECENT, 2, 3, 4)), [[4, 3, 4, 0, 1, 2, 0]])

    def test_first_of_several(self):
        # Without evictions every sequence has the minimum misses: the first one of all is due.
        for policy in POLICIES:
            self.assertEqual(request(worst(policy, 3, 3, 5)), [[1, 1, 5, 0, 0, 0, 0, 0]])

    def test_length_0(self):
        for policy in POLICIES:
            told = request(*[worst(policy, capacity, 3, 0) for capacity in range(7)])
            self.assertEqual(told, [[0, 0, 0]] * 7)

    def test_length_1(self):
        self.assertEqual(request(worst(0, 2, 3, 1)), [[1, 1, 1, 0]])

    def test_key_bound_1(self):
        for length in range(1, 7):
            self.assertEqual(request(worst(2, 1, 1, length)), [[1, 1, length] + [0] * length])

    def test_capacity_0(self):
        self.assertEqual(request(worst(4, 0, 3, 6)), [[6, 6, 6, 0, 0, 0, 0, 0, 0]])

    def test_capacity_1_leaves_no_choice(self):
        for policy in POLICIES:
            self.assertEqual(request(worst(policy, 1, 3, 6)), [[1, 1, 6, 0, 0, 0, 0, 0, 0]])

    def test_capacity_6(self):
        self.assertEqual(request(worst(4, 6, 3, 6)), [[1, 1, 6, 0, 0, 0, 0, 0, 0]])

    def test_next_call_is_found_behind(self):
        told = request(worst(0, 1, 1, 3), counters(), worst(0, 1, 1, 0), counters())
        self.assertEqual(told, [[1, 1, 3, 0, 0, 0], [0, 0], [0, 0, 0], [0, 0]])


class Extremal(unittest.TestCase):
    """Requirement 7, against all sequences of a kind and all their evictions."""

    def check(self, capacity, key_bound, length):
        sequences = sequences_of(key_bound, length)
        minima = [min(every_replay(capacity, sequence))[0] for sequence in sequences]
        for policy in POLICIES:
            told = asked(simulate(capacity, policy, sequence) for sequence in sequences)
            leads = [answer[0] - minimum for answer, minimum in zip(told, minima, strict=True)]
            place = leads.index(max(leads))
            expected = [told[place][0], minima[place], length] + sequences[place]
            self.assertEqual(request(worst(policy, capacity, key_bound, length)), [expected])

    def test_every_kind(self):
        for length in range(7):
            for key_bound in range(1, 4):
                for capacity in range(7):
                    self.check(capacity, key_bound, length)


class WorstErrors(unittest.TestCase):
    def test_capacity_out_of_range(self):
        for capacity in [-1, 7, -FAR, FAR]:
            self.assertEqual(request(worst(0, capacity, 2, 2)), [[-1]])

    def test_policy_out_of_range(self):
        for policy in [-1, 5, -FAR, FAR]:
            self.assertEqual(request(worst(policy, 2, 2, 2)), [[-2]])

    def test_key_bound_out_of_range(self):
        for key_bound in [0, -1, 4, -FAR, FAR]:
            for length in [0, 2, 6]:
                self.assertEqual(request(worst(0, 2, key_bound, length)), [[-6]])

    def test_length_out_of_range(self):
        for length in [-1, 7, -FAR, FAR]:
            for key_bound in [1, 3]:
                self.assertEqual(request(worst(0, 2, key_bound, length)), [[-6]])

    def test_key_bound_3_and_length_6_are_in_range(self):
        self.assertEqual(request(worst(4, 6, 3, 6))[0][:3], [1, 1, 6])

    def test_order_of_errors(self):
        told = request(worst(5, 7, 0, 7), worst(0, -1, 0, 0), worst(-1, 7, 1, 1))
        self.assertEqual(told, [[-1], [-1], [-1]])
        told = request(worst(5, 6, 0, 0), worst(-1, 6, 1, 7), worst(-1, 0, 4, -1))
        self.assertEqual(told, [[-2], [-2], [-2]])
        self.assertEqual(request(worst(0, 0, 0, 7)), [[-6]])

    def test_arguments_lie_in_the_order_of_the_heading(self):
        self.assertEqual(request(worst(6, 4, 1, 1), worst(4, 6, 1, 1)), [[-2], [1, 1, 1, 0]])

    def test_next_call_is_found_behind_an_error(self):
        for wrong in [worst(0, 7, 1, 1), worst(5, 1, 1, 1), worst(0, 1, 0, 1)]:
            self.assertEqual(request(wrong, counters(), worst(0, 1, 1, 1))[1:], [[0, 0], [1, 1, 1, 0]])
