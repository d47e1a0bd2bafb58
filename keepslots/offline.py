"""Whole sequences offline: replayed with some evictions or the best ones, and parted into phases.

The cached keys are a tuple here, from the smallest key on. They are never
changed: each step makes the tuple that is cached after it.
"""


def must_evict(capacity, cached, key):
    return capacity > 0 and len(cached) == capacity and key not in cached


def without_key(cached, victim):
    return tuple([key for key in cached if key != victim])


def with_key(capacity, cached, key):
    """What is cached after an access for which room has been made."""
    if capacity == 0 or key in cached:
        return cached
    return tuple(sorted(cached + (key,)))


def missed(cached, key):
    return 0 if key in cached else 1


def replayed(capacity, sequence, evictions):
    """1 and the misses, or 0 and the position where the evictions fail."""
    cached = ()
    misses = 0
    used = 0
    for position, key in enumerate(sequence):
        misses += missed(cached, key)
        if must_evict(capacity, cached, key):
            if used == len(evictions) or evictions[used] not in cached:
                return [0, position]
            cached = without_key(cached, evictions[used])
            used += 1
        cached = with_key(capacity, cached, key)
    if used < len(evictions):
        return [0, len(sequence)]
    return [1, misses]


def accesses_until(key, upcoming):
    """How many accesses come before the next one to a key: all, where there is none."""
    if key in upcoming:
        return upcoming.index(key)
    return len(upcoming)


def farthest_key(cached, upcoming):
    # max takes the first greatest one, so the smallest of the keys that never come again.
    return max(cached, key=lambda key: accesses_until(key, upcoming))


def belady_evictions(capacity, sequence):
    """The misses of Belady's algorithm, and the keys that it evicts."""
    cached = ()
    misses = 0
    evictions = []
    for position, key in enumerate(sequence):
        misses += missed(cached, key)
        if must_evict(capacity, cached, key):
            victim = farthest_key(cached, sequence[position + 1:])
            cached = without_key(cached, victim)
            evictions.append(victim)
        cached = with_key(capacity, cached, key)
    return (misses, evictions)


def keep_better(ways, cached, way):
    if cached not in ways or way < ways[cached]:
        ways[cached] = way


def ways_after(ways, capacity, key):
    """The best way to each tuple of keys that may be cached after one more access."""
    found = {}
    for cached, way in ways.items():
        misses = way[0] + missed(cached, key)
        if must_evict(capacity, cached, key):
            for victim in cached:
                kept = with_key(capacity, without_key(cached, victim), key)
                keep_better(found, kept, (misses, way[1] + [victim]))
        else:
            keep_better(found, with_key(capacity, cached, key), (misses, way[1]))
    return found


def optimal_evictions(capacity, sequence):
    """The minimum misses, and the smallest evictions that have them.

    A way is its misses and its evictions. What can still be reached hangs on
    the cached keys alone, and ways to the same keys with equal misses have
    equally many evictions. So of these ways the smallest one is enough.
    """
    ways = {(): (0, [])}
    for key in sequence:
        ways = ways_after(ways, capacity, key)
    return min(ways.values())


def phase_starts(capacity, sequence):
    """The positions at which phases start, for a capacity of at least 1."""
    starts = []
    seen = []
    for position, key in enumerate(sequence):
        if key in seen:
            continue
        if position == 0 or len(seen) == capacity:
            starts.append(position)
            seen = []
        seen.append(key)
    return starts
