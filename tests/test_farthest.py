"""Operation 8, farthest."""

import unittest

from tests.support import FAR
from tests.support import asked, counters, farthest, mixed_numbers, request, sequences_of


class Farthest(unittest.TestCase):
    def test_evicts_the_farthest_next_access(self):
        self.assertEqual(request(farthest(2, [3, 5, 3, 7, 3])), [[3, 1, 5]])
        self.assertEqual(request(farthest(2, [0, 1, 2, 0, 1])), [[4, 2, 1, 0]])
        self.assertEqual(request(farthest(3, [6, 7, 8, 9, 6, 8, 7])), [[5, 2, 7, 6]])

    def test_key_that_is_not_accessed_again_goes_first(self):
        self.assertEqual(request(farthest(2, [0, 9, 5, 0])), [[3, 1, 9]])
        self.assertEqual(request(farthest(2, [9, 0, 5, 9])), [[3, 1, 0]])
        # 1 comes again at the very end, 8 never.
        self.assertEqual(request(farthest(2, [1, 8, 5, 5, 5, 5, 5, 1])), [[3, 1, 8]])
        self.assertEqual(request(farthest(2, [8, 1, 5, 5, 5, 5, 5, 8])), [[3, 1, 1]])

    def test_smallest_of_several_not_accessed_again(self):
        self.assertEqual(request(farthest(3, [8, 2, 5, 9])), [[4, 1, 2]])
        self.assertEqual(request(farthest(3, [2, 5, 8, 9])), [[4, 1, 2]])
        self.assertEqual(request(farthest(3, [8, 5, 2, 9])), [[4, 1, 2]])
        self.assertEqual(request(farthest(3, [1, 8, 5, 9, 1])), [[4, 1, 5]])
        self.assertEqual(request(farthest(2, [4, 3, 2, 1])), [[4, 2, 3, 2]])

    def test_earlier_accesses_do_not_count(self):
        # 0 was accessed often and last, but 7 is the one that comes again.
        self.assertEqual(request(farthest(2, [0, 7, 0, 0, 3, 7])), [[3, 1, 0]])

    def test_the_first_of_the_next_accesses_counts(self):
        # 7 comes next and last of all; 0 comes once, in between.
        self.assertEqual(request(farthest(2, [0, 7, 3, 7, 0, 7])), [[4, 2, 0, 3]])

    def test_no_evictions_while_there_is_room(self):
        self.assertEqual(request(farthest(3, [4, 9, 0, 4, 9])), [[3, 0]])

    def test_capacity_0(self):
        self.assertEqual(request(farthest(0, [1, 1, 2])), [[3, 0]])

    def test_capacity_1(self):
        self.assertEqual(request(farthest(1, [5, 5, 6, 5])), [[3, 2, 5, 6]])

    def test_capacity_6(self):
        self.assertEqual(request(farthest(6, [9, 8, 7, 6, 5, 4, 9])), [[6, 0]])
        self.assertEqual(request(farthest(6, [9, 8, 7, 6, 5, 4, 3, 4, 5, 6, 7, 9, 8])), [[8, 2, 8, 3]])

    def test_empty_sequence(self):
        self.assertEqual(request(*[farthest(capacity, []) for capacity in range(7)]), [[0, 0]] * 7)

    def test_30_elements(self):
        self.assertEqual(request(farthest(1, [0, 9] * 15)), [[30, 29] + [0, 9] * 14 + [0]])
        self.assertEqual(request(farthest(6, [9] * 30)), [[1, 0]])

    def test_next_call_is_found_behind_the_sequence(self):
        told = request(farthest(1, [3, 0, 4]), counters(), farthest(1, []), counters())
        self.assertEqual(told, [[3, 2, 3, 0], [0, 0], [0, 0], [0, 0]])


class AgainstTheWords(unittest.TestCase):
    """Belady's algorithm once more, told by the positions of the accesses."""

    def expected(self, capacity, sequence):
        cached, misses, evicted = [], 0, []
        for position, key in enumerate(sequence):
            if key in cached:
                continue
            misses += 1
            if capacity == 0:
                continue
            if len(cached) == capacity:
                victim = self.victim(sorted(cached), sequence, position)
                cached.remove(victim)
                evicted.append(victim)
            cached.append(key)
        return [misses, len(evicted)] + evicted

    def victim(self, cached, sequence, position):
        later = {key: [place for place in range(position + 1, len(sequence)) if sequence[place] == key]
                 for key in cached}
        never = [key for key in cached if not later[key]]
        if never:
            return never[0]
        return sorted(cached, key=lambda key: later[key][0])[-1]

    def test_all_short_sequences(self):
        for length in range(7):
            kinds = [(capacity, sequence) for capacity in range(5) for sequence in sequences_of(4, length)]
            self.check(kinds)

    def test_long_sequences(self):
        self.check([(capacity, mixed_numbers(seed, 30, capacity + 4))
                    for seed in range(100) for capacity in range(7)])

    def check(self, kinds):
        told = asked(farthest(capacity, sequence) for capacity, sequence in kinds)
        for (capacity, sequence), answer in zip(kinds, told, strict=True):
            self.assertEqual(answer, self.expected(capacity, sequence), f"{capacity} {sequence}")


class FarthestErrors(unittest.TestCase):
    def test_capacity_out_of_range(self):
        for capacity in [-1, 7, -FAR, FAR]:
            self.assertEqual(request(farthest(capacity, [1])), [[-1]])

    def test_sequence_too_long(self):
        for length in [31, 100]:
            self.assertEqual(request(farthest(6, [0] * length), farthest(0, [0] * length)), [[-4], [-4]])

    def test_element_that_is_no_key(self):
        for wrong in [10, 11, 1023]:
            for sequence in [[wrong], [wrong, 1, 2], [1, wrong, 2], [1, 2, wrong]]:
                self.assertEqual(request(farthest(6, sequence), farthest(0, sequence)), [[-4], [-4]])

    def test_element_9_and_0_are_keys(self):
        self.assertEqual(request(farthest(1, [9, 0])), [[2, 1, 9]])

    def test_order_of_errors(self):
        self.assertEqual(request(farthest(7, [10]), farthest(-1, [0] * 31)), [[-1], [-1]])

    def test_next_call_is_found_behind_an_error(self):
        for wrong in [farthest(7, [0, 1, 2]), farthest(1, [10, 1, 2]), farthest(1, [3] * 100)]:
            self.assertEqual(request(wrong, counters(), farthest(1, [8]))[1:], [[0, 0], [1, 0]])
