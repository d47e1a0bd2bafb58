"""Requirements 1, 2 and 9, and every answer, against the model over many requests."""

import unittest

from tests.support import FAR, MOST_CALLS, POLICIES, Model, mixed_numbers
from tests.support import access, configure, contents, counters, next_victim, remove, request, simulate


def all_requests():
    for seed in range(60):
        for policy in POLICIES:
            for capacity in range(7):
                yield capacity, policy, mixed_numbers(seed, 25, capacity + 3)


class CacheAndModel(unittest.TestCase):
    def test_contents_and_victim_before_each_access(self):
        for capacity, policy, keys in all_requests():
            model = Model(capacity, policy)
            calls = [configure(capacity, policy)]
            expected = [[0]]
            for key in keys[:14]:
                calls += [contents(), next_victim(), counters(), access(key)]
                expected += [model.contents(), model.next_victim(), model.counters(), model.access(key)]
            self.assertEqual(request(*calls), expected)

    def test_removes_between_accesses(self):
        for capacity, policy, keys in all_requests():
            model = Model(capacity, policy)
            calls = [configure(capacity, policy)]
            expected = [[0]]
            for place, key in enumerate(keys):
                if place % 4 == 3:
                    calls += [remove(key), contents()]
                    expected += [model.remove(key), model.contents()]
                else:
                    calls += [access(key), next_victim()]
                    expected += [model.access(key), model.next_victim()]
            self.assertEqual(request(*calls), expected)


class Requirement1(unittest.TestCase):
    def test_never_above_capacity_and_no_key_twice(self):
        for capacity, policy, keys in all_requests():
            calls = [configure(capacity, policy)]
            for key in keys:
                calls += [access(key), contents()]
            for answer in request(*calls)[2::2]:
                cached = answer[1::3]
                self.assertEqual(answer[0], len(cached))
                self.assertLessEqual(len(cached), capacity)
                self.assertEqual(len(set(cached)), len(cached))


class Requirement2(unittest.TestCase):
    def test_hits_and_evictions(self):
        for capacity, policy, keys in all_requests():
            calls = [configure(capacity, policy), contents()]
            for key in keys:
                calls += [access(key), contents()]
            told = request(*calls)[1:]
            for place, key in enumerate(keys):
                before, answer, after = told[2 * place:2 * place + 3]
                self.check(capacity, key, before[1::3], answer, after[1::3])

    def check(self, capacity, key, before, answer, after):
        hit = key in before
        evicts = not hit and capacity > 0 and len(before) == capacity
        self.assertEqual(answer[:2], [int(hit), int(evicts)])
        self.assertEqual(len(answer), 2 + evicts)
        evicted = answer[2:]
        stays = [cached for cached in before if cached not in evicted]
        inserted = [] if hit or capacity == 0 else [key]
        self.assertEqual(sorted(after), sorted(stays + inserted))
        self.assertTrue(set(evicted) <= set(before))


class Requirement9(unittest.TestCase):
    wrong_calls = [
        (configure(7, 0), -1), (configure(-1, 5), -1), (configure(FAR, 0), -1),
        (configure(0, 5), -2), (configure(1, -1), -2), (configure(6, -FAR), -2),
        (access(10), -3), (access(-1), -3), (access(FAR), -3),
        (remove(10), -3), (remove(-1), -3), (remove(-FAR), -3),
        (simulate(7, 0, [1]), -1), (simulate(2, 5, [1]), -2),
        (simulate(2, 0, [10]), -4), (simulate(2, 0, [1] * 31), -4),
    ]

    def test_errors_leave_the_state(self):
        for capacity, policy, keys in all_requests():
            right, mixed, codes = [configure(capacity, policy)], [configure(capacity, policy)], []
            for place, key in enumerate(keys[:15]):
                wrong, code = self.wrong_calls[(place + key) % len(self.wrong_calls)]
                right += [access(key), contents()]
                mixed += [wrong, access(key), contents()]
                codes.append([code])
            right += [counters(), next_victim()]
            mixed += [counters(), next_victim()]
            told = request(*mixed)
            self.assertEqual(told[1:-2:3], codes)
            del told[1:-2:3]
            self.assertEqual(told, request(*right))


class TheseTests(unittest.TestCase):
    def test_requests_have_at_most_60_calls(self):
        with self.assertRaises(AssertionError):
            request(*[counters()] * (MOST_CALLS + 1))
