"""The calls of one request, made on one new cache, and their answers."""

from keepslots.callreader import CallReader
from keepslots.limits import CapacityRefused, KeyRefused, PolicyRefused, SequenceRefused
from keepslots.limits import check_capacity, check_key, check_policy, check_sequence
from keepslots.slotcache import Cache, cache_after


class Laboratory:
    """The state of a request: the one cache that its calls are made on."""

    def __init__(self):
        self.cache = Cache(0, 0)


def listed(numbers):
    return [len(numbers)] + numbers


def answer_configure(laboratory, reader):
    capacity = reader.take_number()
    policy = reader.take_number()
    check_capacity(capacity)
    check_policy(policy)
    laboratory.cache = Cache(capacity, policy)
    return [0]


def answer_access(laboratory, reader):
    key = reader.take_number()
    check_key(key)
    hit = 1 if laboratory.cache.holds(key) else 0
    evicted = laboratory.cache.access(key)
    return [hit] + listed(evicted)


def answer_remove(laboratory, reader):
    key = reader.take_number()
    check_key(key)
    return [laboratory.cache.remove_key(key)]


def answer_contents(laboratory, reader):
    answer = [len(laboratory.cache.entries)]
    for entry in laboratory.cache.entries:
        answer.extend([entry.key, entry.use_count, entry.reference_bit])
    return answer


def answer_next_victim(laboratory, reader):
    victim = laboratory.cache.next_victim()
    if victim is None:
        return [0]
    return [1, victim.key]


def answer_counters(laboratory, reader):
    return [laboratory.cache.hits, laboratory.cache.misses]


def answer_simulate(laboratory, reader):
    capacity = reader.take_number()
    policy = reader.take_number()
    sequence = reader.take_row()
    check_capacity(capacity)
    check_policy(policy)
    check_sequence(sequence)
    cache = cache_after(capacity, policy, sequence)
    return [cache.misses] + listed(cache.cached_keys())


# Each operation reads all its arguments before it checks them,
# so that after an error the next call is still found.
OPERATIONS = {
    0: answer_configure,
    1: answer_access,
    2: answer_remove,
    3: answer_contents,
    4: answer_next_victim,
    5: answer_counters,
    6: answer_simulate,
}


def answer_call(laboratory, reader):
    operation = OPERATIONS[reader.take_number()]
    try:
        return operation(laboratory, reader)
    except CapacityRefused:
        return [-1]
    except PolicyRefused:
        return [-2]
    except KeyRefused:
        return [-3]
    except SequenceRefused:
        return [-4]


def answers(calls):
    """Make the calls on a new cache; each answer has its length before it."""
    laboratory = Laboratory()
    reader = CallReader(calls)
    answered = []
    while reader.has_more():
        answered.extend(listed(answer_call(laboratory, reader)))
    return answered
