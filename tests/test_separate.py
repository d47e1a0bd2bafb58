"""Operation 11, separate, and what requirement 7 says of it."""

import unittest

from tests.support import FAR, FIRST_IN, LEAST_FREQUENT, LEAST_RECENT, MOST_RECENT, POLICIES, SECOND_CHANCE
from tests.support import asked, counters, request, separate, sequences_of, simulate


class Separate(unittest.TestCase):
    def test_ordinary_inputs(self):
        told = request(separate(FIRST_IN, LEAST_RECENT, 2, 3, 6), separate(LEAST_RECENT, MOST_RECENT, 2, 3, 6))
        # On 0 0 1 0 2 0 the last access misses under the first policy alone. On 0 1 2 0 1 2 least
        # recently used never hits, most recently used hits at the second 0 and the second 2.
        self.assertEqual(told, [[4, 3, 6, 0, 0, 1, 0, 2, 0], [6, 4, 6, 0, 1, 2, 0, 1, 2]])
        self.assertEqual(request(separate(LEAST_RECENT, MOST_RECENT, 2, 3, 4)), [[4, 3, 4, 0, 1, 2, 0]])

    def test_first_of_several(self):
        # No two policies differ before something is evicted: the first sequence of all is due.
        for first in POLICIES:
            for second in POLICIES:
                self.assertEqual(request(separate(first, second, 3, 3, 5)), [[1, 1, 5, 0, 0, 0, 0, 0]])

    def test_a_policy_and_itself(self):
        for policy in POLICIES:
            self.assertEqual(request(separate(policy, policy, 2, 4, 6)), [[1, 1, 6, 0, 0, 0, 0, 0, 0]])

    def test_order_of_the_two_policies_counts(self):
        there = request(separate(LEAST_RECENT, LEAST_FREQUENT, 2, 4, 6))[0]
        back = request(separate(LEAST_FREQUENT, LEAST_RECENT, 2, 4, 6))[0]
        self.assertGreater(there[0], there[1])
        self.assertGreater(back[0], back[1])
        self.assertNotEqual(there[3:], back[3:])

    def test_length_0(self):
        for first in POLICIES:
            for second in POLICIES:
                told = request(*[separate(first, second, capacity, 4, 0) for capacity in range(7)])
                self.assertEqual(told, [[0, 0, 0]] * 7)

    def test_length_1(self):
        self.assertEqual(request(separate(0, 1, 2, 4, 1)), [[1, 1, 1, 0]])

    def test_key_bound_1(self):
        for length in range(1, 7):
            self.assertEqual(request(separate(0, 2, 1, 1, length)), [[1, 1, length] + [0] * length])

    def test_capacity_0(self):
        self.assertEqual(request(separate(0, 4, 0, 4, 6)), [[6, 6, 6, 0, 0, 0, 0, 0, 0]])

    def test_capacity_6(self):
        self.assertEqual(request(separate(0, 4, 6, 4, 6)), [[1, 1, 6, 0, 0, 0, 0, 0, 0]])

    def test_next_call_is_found_behind(self):
        told = request(separate(0, 1, 1, 1, 3), counters(), separate(0, 1, 1, 1, 0), counters())
        self.assertEqual(told, [[1, 1, 3, 0, 0, 0], [0, 0], [0, 0, 0], [0, 0]])


class Extremal(unittest.TestCase):
    """Requirement 7, against all sequences of a kind."""

    def check(self, capacity, key_bound, length):
        sequences = sequences_of(key_bound, length)
        misses = {}
        for policy in POLICIES:
            told = asked(simulate(capacity, policy, sequence) for sequence in sequences)
            misses[policy] = [answer[0] for answer in told]
        for first in POLICIES:
            for second in POLICIES:
                leads = [one - other for one, other in zip(misses[first], misses[second], strict=True)]
                place = leads.index(max(leads))
                expected = [misses[first][place], misses[second][place], length] + sequences[place]
                self.assertEqual(request(separate(first, second, capacity, key_bound, length)), [expected])

    def test_every_kind(self):
        for length in range(7):
            for key_bound in range(1, 5):
                for capacity in range(7):
                    self.check(capacity, key_bound, length)


class SeparateErrors(unittest.TestCase):
    def test_capacity_out_of_range(self):
        for capacity in [-1, 7, -FAR, FAR]:
            self.assertEqual(request(separate(0, 1, capacity, 2, 2)), [[-1]])

    def test_either_policy_out_of_range(self):
        for policy in [-1, 5, -FAR, FAR]:
            told = request(separate(policy, 1, 2, 2, 2), separate(1, policy, 2, 2, 2), separate(policy, policy, 2, 2, 2))
            self.assertEqual(told, [[-2], [-2], [-2]])

    def test_key_bound_out_of_range(self):
        for key_bound in [0, -1, 5, -FAR, FAR]:
            for length in [0, 2, 6]:
                self.assertEqual(request(separate(0, 1, 2, key_bound, length)), [[-6]])

    def test_length_out_of_range(self):
        for length in [-1, 7, -FAR, FAR]:
            for key_bound in [1, 4]:
                self.assertEqual(request(separate(0, 1, 2, key_bound, length)), [[-6]])

    def test_key_bound_4_and_length_6_are_in_range(self):
        self.assertEqual(request(separate(4, 4, 6, 4, 6))[0][:3], [1, 1, 6])

    def test_order_of_errors(self):
        told = request(separate(5, 5, 7, 0, 7), separate(0, 0, -1, 0, 0), separate(-1, 0, 7, 1, 1))
        self.assertEqual(told, [[-1], [-1], [-1]])
        told = request(separate(5, 0, 6, 0, 0), separate(0, 5, 6, 1, 7), separate(-1, -1, 0, 5, -1))
        self.assertEqual(told, [[-2], [-2], [-2]])
        self.assertEqual(request(separate(0, 0, 0, 0, 7)), [[-6]])

    def test_arguments_lie_in_the_order_of_the_heading(self):
        self.assertEqual(request(separate(7, 0, 0, 1, 1), separate(0, 7, 0, 1, 1)), [[-2], [-2]])
        self.assertEqual(request(separate(4, 4, 5, 1, 6)), [[1, 1, 6, 0, 0, 0, 0, 0, 0]])

    def test_next_call_is_found_behind_an_error(self):
        for wrong in [separate(0, 0, 7, 1, 1), separate(5, 0, 1, 1, 1), separate(0, 0, 1, 0, 1)]:
            self.assertEqual(request(wrong, counters(), separate(0, 0, 1, 1, 1))[1:], [[0, 0], [1, 1, 1, 0]])
