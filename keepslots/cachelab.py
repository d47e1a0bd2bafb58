"""The calls of one request, made on one new cache, and their answers."""

from keepslots.callreader import CallReader
from keepslots.extremes import farthest_from_minimum, most_different, shortest_anomaly
from keepslots.limits import MAX_BOUND_SEPARATE, MAX_BOUND_WORST
from keepslots.limits import CapacityRefused, KeyRefused, NoCapacityRefused, PolicyRefused
from keepslots.limits import SearchRefused, SequenceRefused
from keepslots.limits import check_capacity, check_key, check_policy, check_search, check_sequence
from keepslots.limits import check_some_capacity
from keepslots.offline import belady_evictions, optimal_evictions, phase_starts, replayed
from keepslots.slotcache import Cache, cache_after


class Laboratory:
    """The state of a request: the one cache that its calls are made on."""

    def __init__(self):
        self.cache = Cache(0, 0)


def listed(numbers):
    return [len(numbers)] + numbers


def answer_configure(laboratory, reader):
    capacity = reader.take_number()
    policy = reader.take_number()
    check_capacity(capacity)
    check_policy(policy)
    laboratory.cache = Cache(capacity, policy)
    return [0]


def answer_access(laboratory, reader):
    key = reader.take_number()
    check_key(key)
    hit = 1 if laboratory.cache.holds(key) else 0
    evicted = laboratory.cache.access(key)
    return [hit] + listed(evicted)


def answer_remove(laboratory, reader):
    key = reader.take_number()
    check_key(key)
    return [laboratory.cache.remove_key(key)]


def answer_contents(laboratory, reader):
    answer = [len(laboratory.cache.entries)]
    for entry in laboratory.cache.entries:
        answer.extend([entry.key, entry.use_count, entry.reference_bit])
    return answer


def answer_next_victim(laboratory, reader):
    victim = laboratory.cache.next_victim()
    if victim is None:
        return [0]
    return [1, victim.key]


def answer_counters(laboratory, reader):
    return [laboratory.cache.hits, laboratory.cache.misses]


def answer_simulate(laboratory, reader):
    capacity = reader.take_number()
    policy = reader.take_number()
    sequence = reader.take_row()
    check_capacity(capacity)
    check_policy(policy)
    check_sequence(sequence)
    cache = cache_after(capacity, policy, sequence)
    return [cache.misses] + listed(cache.cached_keys())


def answer_optimal(laboratory, reader):
    capacity = reader.take_number()
    sequence = reader.take_row()
    check_capacity(capacity)
    check_sequence(sequence)
    outcome = optimal_evictions(capacity, sequence)
    return [outcome[0]] + listed(outcome[1])


def answer_farthest(laboratory, reader):
    capacity = reader.take_number()
    sequence = reader.take_row()
    check_capacity(capacity)
    check_sequence(sequence)
    outcome = belady_evictions(capacity, sequence)
    return [outcome[0]] + listed(outcome[1])


def answer_replay(laboratory, reader):
    capacity = reader.take_number()
    sequence = reader.take_row()
    evictions = reader.take_row()
    check_capacity(capacity)
    check_sequence(sequence)
    check_sequence(evictions)
    return replayed(capacity, sequence, evictions)


def answer_phases(laboratory, reader):
    capacity = reader.take_number()
    sequence = reader.take_row()
    check_capacity(capacity)
    check_some_capacity(capacity)
    check_sequence(sequence)
    return listed(phase_starts(capacity, sequence))


def answer_separate(laboratory, reader):
    first = reader.take_number()
    second = reader.take_number()
    capacity = reader.take_number()
    key_bound = reader.take_number()
    length = reader.take_number()
    check_capacity(capacity)
    check_policy(first)
    check_policy(second)
    check_search(key_bound, MAX_BOUND_SEPARATE, length)
    outcome = most_different(first, second, capacity, key_bound, length)
    return [outcome[0], outcome[1]] + listed(outcome[2])


def answer_worst(laboratory, reader):
    policy = reader.take_number()
    capacity = reader.take_number()
    key_bound = reader.take_number()
    length = reader.take_number()
    check_capacity(capacity)
    check_policy(policy)
    check_search(key_bound, MAX_BOUND_WORST, length)
    outcome = farthest_from_minimum(policy, capacity, key_bound, length)
    return [outcome[0], outcome[1]] + listed(outcome[2])


def answer_anomaly(laboratory, reader):
    policy = reader.take_number()
    capacity = reader.take_number()
    sequence = reader.take_row()
    check_capacity(capacity)
    check_policy(policy)
    check_sequence(sequence)
    return shortest_anomaly(policy, capacity, sequence)


# Each operation reads all its arguments before it checks them,
# so that after an error the next call is still found.
OPERATIONS = {
    0: answer_configure,
    1: answer_access,
    2: answer_remove,
    3: answer_contents,
    4: answer_next_victim,
    5: answer_counters,
    6: answer_simulate,
    7: answer_optimal,
    8: answer_farthest,
    9: answer_replay,
    10: answer_phases,
    11: answer_separate,
    12: answer_worst,
    13: answer_anomaly,
}


def answer_call(laboratory, reader):
    operation = OPERATIONS[reader.take_number()]
    try:
        return operation(laboratory, reader)
    except CapacityRefused:
        return [-1]
    except PolicyRefused:
        return [-2]
    except KeyRefused:
        return [-3]
    except SequenceRefused:
        return [-4]
    except NoCapacityRefused:
        return [-5]
    except SearchRefused:
        return [-6]


def answers(calls):
    """Make the calls on a new cache; each answer has its length before it."""
    laboratory = Laboratory()
    reader = CallReader(calls)
    answered = []
    while reader.has_more():
        answered.extend(listed(answer_call(laboratory, reader)))
    return answered
