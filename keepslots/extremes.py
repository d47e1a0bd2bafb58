"""Comparing policies: where two differ most, where one is worst, and Belady's anomaly."""

from keepslots.offline import optimal_evictions
from keepslots.slotcache import Cache, cache_after


def renamed_sequences(key_bound, length):
    """The sequences of a kind, in order, whose keys are first used from 0 on, none left out.

    Neither a policy nor the minimum misses look at the number of a key. So a
    sequence has the same misses once its keys are renamed in the order of
    their first use, and it is never earlier than the renamed one. Hence the
    first extremal sequence of all is among these.
    """
    sequences = [[]]
    for place in range(length):
        longer = []
        for sequence in sequences:
            used = len(set(sequence))
            for key in range(min(used + 1, key_bound)):
                longer.append(sequence + [key])
        sequences = longer
    return sequences


def misses_of(policy, capacity, sequence):
    return cache_after(capacity, policy, sequence).misses


def minimum_misses(capacity, sequence):
    return optimal_evictions(capacity, sequence)[0]


def lead_of(outcome):
    return outcome[0] - outcome[1]


def first_greatest(outcomes):
    # Of several greatest ones max gives the first, which is the earliest sequence.
    return max(outcomes, key=lead_of)


def most_different(first, second, capacity, key_bound, length):
    """The misses of both policies and the sequence on which they differ most."""
    outcomes = []
    for sequence in renamed_sequences(key_bound, length):
        first_misses = misses_of(first, capacity, sequence)
        second_misses = misses_of(second, capacity, sequence)
        outcomes.append((first_misses, second_misses, sequence))
    return first_greatest(outcomes)


def farthest_from_minimum(policy, capacity, key_bound, length):
    """The misses, the minimum misses and the sequence on which a policy is worst."""
    outcomes = []
    for sequence in renamed_sequences(key_bound, length):
        misses = misses_of(policy, capacity, sequence)
        minimum = minimum_misses(capacity, sequence)
        outcomes.append((misses, minimum, sequence))
    return first_greatest(outcomes)


def shortest_anomaly(policy, capacity, sequence):
    """1, the length of the prefix and the misses with both capacities, or 0."""
    smaller = Cache(capacity, policy)
    larger = Cache(capacity + 1, policy)
    for position, key in enumerate(sequence):
        smaller.access(key)
        larger.access(key)
        if larger.misses > smaller.misses:
            return [1, position + 1, smaller.misses, larger.misses]
    return [0]
