"""Operation 2, remove."""

import unittest

from tests.support import FAR, FIRST_IN, LEAST_RECENT, POLICIES, SECOND_CHANCE
from tests.support import access, configure, contents, counters, last_answer, next_victim, remove, request


def filled(policy=0):
    return [configure(3, policy), access(4), access(5), access(6), access(5)]


class Remove(unittest.TestCase):
    def test_tells_whether_the_key_was_cached(self):
        self.assertEqual(last_answer(*filled(), remove(5)), [1])
        self.assertEqual(last_answer(*filled(), remove(7)), [0])
        self.assertEqual(last_answer(*filled(), remove(5), remove(5)), [0])
        self.assertEqual(last_answer(remove(0)), [0])
        self.assertEqual(last_answer(remove(9)), [0])

    def test_from_the_middle_leaves_the_others(self):
        for policy in POLICIES:
            told = last_answer(*filled(policy), remove(5), contents())
            self.assertEqual(told, [2, 4, 1, 0, 6, 1, 0])

    def test_from_both_ends_leaves_the_others(self):
        self.assertEqual(last_answer(*filled(), remove(4), contents()), [2, 5, 2, 1, 6, 1, 0])
        self.assertEqual(last_answer(*filled(), remove(6), contents()), [2, 4, 1, 0, 5, 2, 1])

    def test_key_not_cached_changes_nothing(self):
        self.assertEqual(last_answer(*filled(), remove(7), contents()), [3, 4, 1, 0, 5, 2, 1, 6, 1, 0])

    def test_counters_stay(self):
        self.assertEqual(last_answer(*filled(), remove(5), remove(9), counters()), [1, 3])

    def test_numbering_of_accesses_goes_on(self):
        calls = [*filled(LEAST_RECENT), remove(4), access(4), access(6)]
        self.assertEqual(last_answer(*calls, next_victim()), [1, 5])

    def test_makes_room(self):
        calls = [*filled(FIRST_IN), remove(5)]
        self.assertEqual(last_answer(*calls, next_victim()), [0])
        self.assertEqual(last_answer(*calls, access(7)), [0, 0])
        self.assertEqual(last_answer(*calls, access(7), contents()), [3, 4, 1, 0, 6, 1, 0, 7, 1, 0])

    def test_removed_key_comes_back_as_new(self):
        for policy in POLICIES:
            told = request(*filled(policy), remove(5), access(5), contents())
            self.assertEqual(told[-2:], [[0, 0], [3, 4, 1, 0, 6, 1, 0, 5, 1, 0]])

    def test_bits_of_the_others_stay(self):
        calls = [configure(3, SECOND_CHANCE)] + [access(key) for key in [4, 5, 6, 4, 6]]
        self.assertEqual(last_answer(*calls, remove(5), contents()), [2, 4, 2, 1, 6, 2, 1])


class RemoveErrors(unittest.TestCase):
    def test_key_out_of_range(self):
        for key in [-1, 10, -FAR, FAR]:
            self.assertEqual(last_answer(*filled(), remove(key)), [-3])

    def test_errors_leave_the_state(self):
        after = [contents(), counters(), next_victim()]
        told = request(*filled(), *after)[-3:]
        for key in [-1, 10, FAR, -FAR]:
            self.assertEqual(request(*filled(), remove(key), *after)[-3:], told)
