"""Requirements 3 to 6 and 9 of the offline calls, which leave the cache as it was."""

import unittest

from tests.support import FAR, FIRST_IN, LEAST_RECENT, POLICIES
from tests.support import access, anomaly, asked, configure, contents, counters, every_replay, farthest
from tests.support import mixed_numbers, next_victim, optimal, phases, remove, replay, request
from tests.support import separate, sequences_of, simulate, worst


def short_sequences():
    return [sequence for length in range(7) for sequence in sequences_of(3, length)]


def long_sequences():
    return [mixed_numbers(seed, 30, 3 + seed % 8) for seed in range(80)]


class Requirement3(unittest.TestCase):
    def test_optimal_evictions_are_valid(self):
        for sequence in short_sequences() + long_sequences():
            for capacity in range(7):
                misses, _, *evictions = request(optimal(capacity, sequence))[0]
                self.assertEqual(request(replay(capacity, sequence, evictions)), [[1, misses]])

    def test_no_valid_evictions_have_fewer_misses(self):
        for sequence in sequences_of(4, 6) + [mixed_numbers(seed, 10, 7) for seed in range(60)]:
            for capacity in range(5):
                misses, count, *evictions = request(optimal(capacity, sequence))[0]
                every = every_replay(capacity, sequence)
                self.assertEqual(misses, min(found for found, _ in every))
                least = [valid for found, valid in every if found == misses]
                self.assertEqual(evictions, min(least))
                self.assertEqual(count, len(evictions))

    def test_no_policy_has_fewer_misses(self):
        for sequence in short_sequences() + long_sequences():
            for capacity in range(7):
                calls = [optimal(capacity, sequence)]
                told = request(*calls, *[simulate(capacity, policy, sequence) for policy in POLICIES])
                self.assertLessEqual(told[0][0], min(answer[0] for answer in told[1:]))


class Requirement4(unittest.TestCase):
    def test_belady_has_the_minimum_misses(self):
        for sequence in short_sequences() + long_sequences():
            for capacity in range(7):
                told = request(farthest(capacity, sequence), optimal(capacity, sequence))
                self.assertEqual(told[0][0], told[1][0])

    def test_belady_against_all_evictions(self):
        for sequence in sequences_of(4, 6) + [mixed_numbers(seed, 10, 7) for seed in range(60)]:
            for capacity in range(5):
                misses, _, *evictions = request(farthest(capacity, sequence))[0]
                self.assertIn((misses, evictions), every_replay(capacity, sequence))
                self.assertEqual(misses, min(every_replay(capacity, sequence))[0])


class Requirement5(unittest.TestCase):
    def test_phase_bounds(self):
        for sequence in short_sequences() + long_sequences():
            for capacity in range(1, 7):
                told = request(phases(capacity, sequence), optimal(capacity, sequence),
                               simulate(capacity, FIRST_IN, sequence), simulate(capacity, LEAST_RECENT, sequence))
                count, minimum, first_in, least_recent = [answer[0] for answer in told]
                self.assertGreaterEqual(minimum, count)
                for misses in [first_in, least_recent]:
                    self.assertLessEqual(misses, capacity * count)
                    self.assertLessEqual(misses, capacity * minimum)


class Requirement6(unittest.TestCase):
    def test_least_recently_used_caches_all_of_the_smaller_cache(self):
        for sequence in long_sequences():
            for length in range(31):
                told = request(*[simulate(capacity, LEAST_RECENT, sequence[:length]) for capacity in range(7)])
                for smaller, larger in zip(told, told[1:]):
                    self.assertLessEqual(set(smaller[2:]), set(larger[2:]))
                    self.assertLessEqual(larger[0], smaller[0])

    def test_least_recently_used_has_no_anomaly(self):
        for sequence in long_sequences():
            told = request(*[anomaly(LEAST_RECENT, capacity, sequence) for capacity in range(7)])
            self.assertEqual(told, [[0]] * 7)

    def test_minimum_misses_do_not_increase(self):
        for sequence in short_sequences() + long_sequences():
            minima = [answer[0] for answer in request(*[optimal(capacity, sequence) for capacity in range(7)])]
            self.assertEqual(minima, sorted(minima, reverse=True))


OFFLINE = [
    simulate(2, 4, [5, 6, 7, 5]), optimal(2, [5, 6, 7, 5]), farthest(3, [9, 8, 7, 6, 9]),
    replay(2, [5, 6, 7, 5], [6]), replay(2, [5, 6, 7, 5], [0]), phases(2, [5, 6, 7, 5]),
    separate(0, 1, 2, 3, 6), worst(3, 2, 3, 6), anomaly(0, 3, [0, 1, 2, 3, 0, 1, 4, 0, 1, 2, 3, 4]),
]
WRONG = [
    (optimal(7, [1]), -1), (optimal(2, [10]), -4), (farthest(-1, [1]), -1), (farthest(2, [0] * 31), -4),
    (replay(FAR, [1], []), -1), (replay(2, [10], []), -4), (replay(2, [1], [10]), -4),
    (phases(-FAR, [1]), -1), (phases(0, [1]), -5), (phases(1, [10]), -4),
    (separate(0, 0, 7, 1, 1), -1), (separate(5, 0, 1, 1, 1), -2), (separate(0, -1, 1, 1, 1), -2),
    (separate(0, 0, 1, 5, 1), -6), (separate(0, 0, 1, 4, 7), -6),
    (worst(0, 7, 1, 1), -1), (worst(5, 1, 1, 1), -2), (worst(0, 1, 4, 1), -6), (worst(0, 1, 3, -1), -6),
    (anomaly(0, 7, [1]), -1), (anomaly(5, 6, [1]), -2), (anomaly(0, 6, [10]), -4),
]


class CacheLeftAlone(unittest.TestCase):
    """A request with offline calls strewn in tells of its cache what it would tell without them."""

    def check(self, strewn, codes):
        for policy in POLICIES:
            for capacity in range(7):
                plain, mixed, told_codes = [configure(capacity, policy)], [configure(capacity, policy)], []
                keys = mixed_numbers(policy + 5 * capacity, 9, capacity + 2)
                for place, key in enumerate(keys):
                    turn = (place + policy + 5 * capacity) % len(strewn)
                    online = [access(key), contents(), counters(), next_victim()]
                    plain += online
                    mixed += [strewn[turn]] + online
                    told_codes.append(codes[turn])
                plain += [remove(keys[0]), contents()]
                mixed += [remove(keys[0]), contents()]
                told = request(*mixed)
                self.assertEqual(told[1:-2:5], told_codes)
                del told[1:-2:5]
                self.assertEqual(told, request(*plain))

    def test_offline_calls_leave_the_cache(self):
        self.check(OFFLINE, asked(OFFLINE))

    def test_errors_leave_the_cache(self):
        self.check([call for call, _ in WRONG], [[code] for _, code in WRONG])

    def test_the_cache_does_not_change_offline_answers(self):
        full = [configure(2, 4), access(5), access(6), access(5), access(7)]
        for call, answer in zip(OFFLINE, asked(OFFLINE), strict=True):
            self.assertEqual(request(*full, call)[-1], answer)
