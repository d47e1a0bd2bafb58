"""Operation 1, access, with the five policies."""

import unittest

from tests.support import FAR, FIRST_IN, LEAST_FREQUENT, LEAST_RECENT, MOST_RECENT, POLICIES, SECOND_CHANCE
from tests.support import access, configure, contents, counters, last_answer, next_victim, remove, request


def accesses(capacity, policy, keys):
    return [configure(capacity, policy)] + [access(key) for key in keys]


class HitsAndMisses(unittest.TestCase):
    def test_miss_with_room_evicts_nothing(self):
        for policy in POLICIES:
            told = request(*accesses(6, policy, [0, 1, 2, 3, 4, 9]))
            self.assertEqual(told[1:], [[0, 0]] * 6)

    def test_hit_evicts_nothing_in_a_full_cache(self):
        for policy in POLICIES:
            told = request(*accesses(2, policy, [1, 2, 1, 2, 2]))
            self.assertEqual(told[1:], [[0, 0], [0, 0], [1, 0], [1, 0], [1, 0]])

    def test_hit_sets_count_and_bit_and_keeps_the_place(self):
        for policy in POLICIES:
            calls = accesses(3, policy, [4, 5, 4, 4])
            self.assertEqual(last_answer(*calls, contents()), [2, 4, 3, 1, 5, 1, 0])

    def test_evicted_key_is_a_miss_again(self):
        for policy in POLICIES:
            told = request(*accesses(1, policy, [1, 2, 1]))
            self.assertEqual(told[1:], [[0, 0], [0, 1, 1], [0, 1, 2]])

    def test_key_inserted_again_has_count_1_and_no_bit(self):
        for policy in POLICIES:
            calls = accesses(1, policy, [1, 1, 1, 2, 1])
            self.assertEqual(last_answer(*calls, contents()), [1, 1, 1, 0])

    def test_capacity_0_caches_nothing(self):
        for policy in POLICIES:
            told = request(*accesses(0, policy, [7, 7, 8]), contents(), counters())
            self.assertEqual(told[1:], [[0, 0], [0, 0], [0, 0], [0], [0, 3]])

    def test_least_and_greatest_key(self):
        told = request(*accesses(1, 0, [0, 9, 9, 0]))
        self.assertEqual(told[1:], [[0, 0], [0, 1, 0], [1, 0], [0, 1, 9]])


class Policies(unittest.TestCase):
    def evicted(self, policy, keys, capacity=3):
        """The key that the last access evicts, whichever was told before it."""
        calls = accesses(capacity, policy, keys)
        told = request(*calls[:-1], next_victim(), calls[-1], contents())
        victim = told[-2][2]
        self.assertEqual(told[-2], [0, 1, victim])
        self.assertEqual(told[-3], [1, victim])
        self.assertNotIn(victim, told[-1][1::3])
        return victim

    def test_first_in_goes_by_the_list_and_not_by_use(self):
        self.assertEqual(self.evicted(FIRST_IN, [3, 1, 2, 3, 3, 4]), 3)
        self.assertEqual(self.evicted(FIRST_IN, [3, 1, 2, 3, 4, 5]), 1)

    def test_least_recent_goes_by_the_smallest_last_use(self):
        self.assertEqual(self.evicted(LEAST_RECENT, [3, 1, 2, 3, 4]), 1)
        self.assertEqual(self.evicted(LEAST_RECENT, [3, 1, 2, 3, 1, 4]), 2)
        self.assertEqual(self.evicted(LEAST_RECENT, [3, 3, 3, 1, 2, 4]), 3)

    def test_most_recent_goes_by_the_greatest_last_use(self):
        self.assertEqual(self.evicted(MOST_RECENT, [3, 1, 2, 4]), 2)
        self.assertEqual(self.evicted(MOST_RECENT, [3, 1, 2, 1, 4]), 1)
        self.assertEqual(self.evicted(MOST_RECENT, [3, 1, 2, 1, 4, 5]), 4)

    def test_least_frequent_goes_by_the_smallest_count(self):
        self.assertEqual(self.evicted(LEAST_FREQUENT, [3, 3, 1, 1, 2, 4]), 2)
        self.assertEqual(self.evicted(LEAST_FREQUENT, [2, 1, 1, 3, 3, 3, 2, 2, 4]), 1)

    def test_least_frequent_ties_go_by_the_smallest_last_use(self):
        self.assertEqual(self.evicted(LEAST_FREQUENT, [3, 1, 2, 4]), 3)
        self.assertEqual(self.evicted(LEAST_FREQUENT, [3, 1, 2, 2, 1, 3, 4]), 2)
        self.assertEqual(self.evicted(LEAST_FREQUENT, [3, 1, 2, 3, 2, 1, 1, 4]), 3)

    def test_least_frequent_counts_from_the_insertion_on(self):
        # Key 1 was used four times before it was evicted; that doesn't count any more.
        keys = [1, 1, 1, 2, 2, 2, 2, 3, 3, 3, 3, 4, 3, 1, 5]
        self.assertEqual(self.evicted(LEAST_FREQUENT, keys), 1)

    def test_second_chance_evicts_the_first_where_no_bit_is_set(self):
        self.assertEqual(self.evicted(SECOND_CHANCE, [3, 1, 2, 4]), 3)

    def test_second_chance_passes_set_bits(self):
        self.assertEqual(self.evicted(SECOND_CHANCE, [3, 1, 2, 3, 4]), 1)
        self.assertEqual(self.evicted(SECOND_CHANCE, [3, 1, 2, 3, 1, 4]), 2)
        self.assertEqual(self.evicted(SECOND_CHANCE, [3, 1, 2, 1, 2, 4]), 3)

    def test_second_chance_evicts_the_first_where_each_bit_is_set(self):
        self.assertEqual(self.evicted(SECOND_CHANCE, [3, 1, 2, 2, 1, 3, 4]), 3)

    def test_second_chance_moves_passed_entries_to_the_end(self):
        calls = accesses(4, SECOND_CHANCE, [3, 1, 2, 0, 3, 3, 1, 0, 5])
        told = last_answer(*calls, contents())
        self.assertEqual(told, [4, 0, 2, 1, 3, 3, 0, 1, 2, 0, 5, 1, 0])

    def test_second_chance_clears_all_bits_once_round(self):
        calls = accesses(3, SECOND_CHANCE, [3, 1, 2, 2, 1, 3, 4])
        self.assertEqual(last_answer(*calls, contents()), [3, 1, 2, 0, 2, 2, 0, 4, 1, 0])

    def test_second_chance_is_given_once(self):
        keys = [3, 1, 3, 4, 5]
        self.assertEqual(self.evicted(SECOND_CHANCE, keys, 2), 3)

    def test_other_policies_leave_bits_and_places(self):
        for policy, victim in [(FIRST_IN, 1), (LEAST_RECENT, 3), (MOST_RECENT, 2), (LEAST_FREQUENT, 3)]:
            entries = {1: [1, 2, 1], 3: [3, 1, 0], 2: [2, 2, 1]}
            del entries[victim]
            expected = [3] + [number for entry in entries.values() for number in entry] + [4, 1, 0]
            calls = accesses(3, policy, [1, 3, 2, 1, 2, 4])
            self.assertEqual(last_answer(*calls, contents()), expected)

    def test_victim_in_the_middle_leaves_the_order(self):
        calls = accesses(3, LEAST_RECENT, [3, 1, 2, 3, 4])
        self.assertEqual(last_answer(*calls, contents())[1::3], [3, 2, 4])


class AccessErrors(unittest.TestCase):
    def test_key_out_of_range(self):
        for key in [-1, 10, 11, -FAR, FAR]:
            self.assertEqual(request(configure(2, 0), access(key)), [[0], [-3]])
            self.assertEqual(request(access(key)), [[-3]])

    def test_errors_leave_the_state(self):
        for policy in POLICIES:
            before = accesses(2, policy, [3, 5, 3])
            after = [contents(), counters(), next_victim(), access(7), remove(3), contents()]
            told = request(*before, *after)[len(before):]
            for key in [-1, 10, FAR, -FAR]:
                self.assertEqual(request(*before, access(key), *after)[len(before) + 1:], told)

    def test_errors_are_not_numbered(self):
        calls = accesses(2, LEAST_RECENT, [3, 10, 5, -1, 3, 10])
        self.assertEqual(last_answer(*calls, counters()), [1, 2])
        self.assertEqual(last_answer(*calls, access(7)), [0, 1, 5])
