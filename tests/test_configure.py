"""Operation 0, configure, and the state that a request begins with."""

import unittest

from keepslots.callreader import CallReader
from keepslots.cachelab import Laboratory, answer_access, answer_configure
from tests.support import FAR, LEAST_RECENT, POLICIES
from tests.support import access, configure, contents, counters, last_answer, next_victim, request


class InitialState(unittest.TestCase):
    def test_cache_begins_empty(self):
        self.assertEqual(request(contents(), next_victim(), counters()), [[0], [0], [0, 0]])

    def test_cache_begins_with_capacity_0(self):
        calls = [access(4), access(4), contents(), counters()]
        self.assertEqual(request(*calls), [[0, 0], [0, 0], [0], [0, 2]])

    def test_fields_begin_as_the_document_says(self):
        cache = Laboratory().cache
        fields = [cache.capacity, cache.policy, cache.entries, cache.hits, cache.misses]
        self.assertEqual(fields, [0, 0, [], 0, 0])


class Configure(unittest.TestCase):
    def test_answers_0_for_each_capacity_and_policy(self):
        for capacity in range(7):
            for policy in POLICIES:
                self.assertEqual(request(configure(capacity, policy)), [[0]])

    def test_capacity_is_taken(self):
        for capacity in range(7):
            calls = [configure(capacity, 0)] + [access(key) for key in range(10)]
            self.assertEqual(last_answer(*calls, contents())[0], capacity)

    def test_empties_the_cache(self):
        calls = [configure(3, 0), access(1), access(2), configure(3, 0)]
        self.assertEqual(last_answer(*calls, contents()), [0])
        self.assertEqual(last_answer(*calls, access(1)), [0, 0])

    def test_sets_the_counters_to_0(self):
        calls = [configure(3, 0), access(1), access(1), access(2), configure(3, 0), counters()]
        self.assertEqual(request(*calls)[-1], [0, 0])

    def test_use_counts_and_bits_begin_anew(self):
        calls = [configure(3, 4), access(1), access(1), configure(3, 4), access(1), contents()]
        self.assertEqual(last_answer(*calls), [1, 1, 1, 0])

    def test_accesses_are_numbered_from_1_again(self):
        laboratory = Laboratory()
        answer_configure(laboratory, CallReader([2, LEAST_RECENT]))
        for key in [5, 6, 5]:
            answer_access(laboratory, CallReader([key]))
        self.assertEqual([entry.last_use for entry in laboratory.cache.entries], [3, 2])
        answer_configure(laboratory, CallReader([2, LEAST_RECENT]))
        for key in [8, 7, 7]:
            answer_access(laboratory, CallReader([key]))
        self.assertEqual([entry.last_use for entry in laboratory.cache.entries], [1, 3])

    def test_old_uses_do_not_count_after_configure(self):
        old = [configure(2, 1), access(1), access(2), access(2), access(2)]
        new = [configure(2, 1), access(2), access(1), next_victim()]
        self.assertEqual(last_answer(*old, *new), [1, 2])


class ConfigureErrors(unittest.TestCase):
    def test_capacity_out_of_range(self):
        for capacity in [-1, 7, 10, -FAR, FAR]:
            self.assertEqual(request(configure(capacity, 0)), [[-1]])

    def test_policy_out_of_range(self):
        for policy in [-1, 5, 10, -FAR, FAR]:
            self.assertEqual(request(configure(6, policy)), [[-2]])

    def test_capacity_comes_before_policy(self):
        for capacity, policy in [(7, 5), (-1, -1), (FAR, -FAR)]:
            self.assertEqual(request(configure(capacity, policy)), [[-1]])

    def test_errors_leave_the_state(self):
        before = [configure(2, 1), access(3), access(5), access(3)]
        after = [contents(), counters(), next_victim(), access(7), contents()]
        told = request(*before, *after)[len(before):]
        for wrong in [configure(7, 0), configure(-1, 0), configure(0, 5), configure(3, -1)]:
            self.assertEqual(request(*before, wrong, *after)[len(before) + 1:], told)
