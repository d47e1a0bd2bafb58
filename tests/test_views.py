"""Operations 3 to 5: contents, next_victim and counters."""

import unittest

from tests.support import LEAST_RECENT, POLICIES, SECOND_CHANCE
from tests.support import access, configure, contents, counters, last_answer, next_victim, request, simulate


class Contents(unittest.TestCase):
    def test_tells_entries_in_the_order_of_the_list(self):
        calls = [configure(6, LEAST_RECENT)] + [access(key) for key in [9, 0, 5, 0, 9, 9]]
        self.assertEqual(last_answer(*calls, contents()), [3, 9, 3, 1, 0, 2, 1, 5, 1, 0])

    def test_six_entries(self):
        calls = [configure(6, 0)] + [access(key) for key in [5, 4, 3, 2, 1, 0]]
        expected = [6, 5, 1, 0, 4, 1, 0, 3, 1, 0, 2, 1, 0, 1, 1, 0, 0, 1, 0]
        self.assertEqual(last_answer(*calls, contents()), expected)


class NextVictim(unittest.TestCase):
    def test_none_while_there_is_room(self):
        for policy in POLICIES:
            calls = [configure(3, policy), access(1), access(2)]
            self.assertEqual(last_answer(*calls, next_victim()), [0])

    def test_none_with_capacity_0(self):
        for policy in POLICIES:
            self.assertEqual(last_answer(configure(0, policy), access(1), next_victim()), [0])

    def test_victim_of_each_policy(self):
        calls = [access(key) for key in [1, 1, 1, 2, 3, 3, 0, 0, 1]]
        for policy, victim in enumerate([1, 2, 1, 2, 2]):
            told = last_answer(configure(4, policy), *calls, next_victim())
            self.assertEqual(told, [1, victim])

    def test_key_0_can_be_the_victim(self):
        self.assertEqual(last_answer(configure(1, 0), access(0), next_victim()), [1, 0])

    def test_second_chance_is_only_foretold(self):
        calls = [configure(3, SECOND_CHANCE)] + [access(key) for key in [3, 1, 2, 3, 1]]
        told = request(*calls, contents(), next_victim(), next_victim(), contents())
        self.assertEqual(told[-4:-2], [[3, 3, 2, 1, 1, 2, 1, 2, 1, 0], [1, 2]])
        self.assertEqual(told[-2:], [[1, 2], [3, 3, 2, 1, 1, 2, 1, 2, 1, 0]])


class Counters(unittest.TestCase):
    def test_hits_and_misses(self):
        calls = [configure(2, 0)] + [access(key) for key in [1, 1, 2, 3, 2, 2, 1]]
        self.assertEqual(last_answer(*calls, counters()), [3, 4])

    def test_only_misses(self):
        calls = [configure(2, 0)] + [access(key) for key in [1, 2, 3]]
        self.assertEqual(last_answer(*calls, counters()), [0, 3])


class StateIsLeft(unittest.TestCase):
    def test_by_operations_3_to_6(self):
        before = [configure(2, SECOND_CHANCE)] + [access(key) for key in [3, 5, 3, 5]]
        after = [contents(), counters(), next_victim(), access(7), contents(), access(8), contents()]
        told = request(*before, *after)[len(before):]
        looks = [contents(), next_victim(), counters(), simulate(3, 1, [1, 2, 3, 4, 3]), simulate(7, 1, [])]
        for look in looks:
            self.assertEqual(request(*before, look, look, *after)[len(before) + 2:], told)
