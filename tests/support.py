"""What the tests share: writing calls, parting answers, and a model to compare with."""

import itertools

from keepslots.cachelab import answers

FIRST_IN, LEAST_RECENT, MOST_RECENT, LEAST_FREQUENT, SECOND_CHANCE = range(5)
POLICIES = range(5)
FAR = 10 ** 18
MOST_CALLS = 60


def configure(capacity, policy):
    return [0, capacity, policy]


def access(key):
    return [1, key]


def remove(key):
    return [2, key]


def contents():
    return [3]


def next_victim():
    return [4]


def counters():
    return [5]


def simulate(capacity, policy, sequence):
    return [6, capacity, policy, len(sequence)] + list(sequence)


def optimal(capacity, sequence):
    return [7, capacity, len(sequence)] + list(sequence)


def farthest(capacity, sequence):
    return [8, capacity, len(sequence)] + list(sequence)


def replay(capacity, sequence, evictions):
    return [9, capacity, len(sequence)] + list(sequence) + [len(evictions)] + list(evictions)


def phases(capacity, sequence):
    return [10, capacity, len(sequence)] + list(sequence)


def separate(first, second, capacity, key_bound, length):
    return [11, first, second, capacity, key_bound, length]


def worst(policy, capacity, key_bound, length):
    return [12, policy, capacity, key_bound, length]


def anomaly(policy, capacity, sequence):
    return [13, policy, capacity, len(sequence)] + list(sequence)


def parted(numbers):
    """The answers of a request, each a list, without the lengths before them."""
    found = []
    position = 0
    while position < len(numbers):
        end = position + 1 + numbers[position]
        if numbers[position] < 1 or end > len(numbers):
            raise AssertionError(f"no answer begins at {position} of {numbers}")
        found.append(numbers[position + 1:end])
        position = end
    return found


def request(*calls):
    """The answers to some calls, which are made as one request."""
    if len(calls) > MOST_CALLS:
        raise AssertionError("a request has at most 60 calls")
    return parted(answers([number for call in calls for number in call]))


def last_answer(*calls):
    return request(*calls)[-1]


def asked(calls):
    """The answers to any number of calls that leave the cache alone, 60 to a request."""
    calls = list(calls)
    found = []
    for start in range(0, len(calls), MOST_CALLS):
        found += request(*calls[start:start + MOST_CALLS])
    return found


def mixed_numbers(seed, count, bound):
    """Numbers below a bound that look mixed and are the same each time."""
    found = []
    for _ in range(count):
        seed = (seed * 1103515245 + 12345) % 2 ** 31
        found.append((seed >> 12) % bound)
    return found


def sequences_of(key_bound, length):
    """All sequences of a kind, in lexicographic order."""
    return [list(keys) for keys in itertools.product(range(key_bound), repeat=length)]


def every_replay(capacity, sequence, cached=()):
    """All pairs of misses and valid evictions, found by trying each cached key at each eviction."""
    if not sequence:
        return [(0, [])]
    key, rest = sequence[0], sequence[1:]
    if key in cached:
        return every_replay(capacity, rest, cached)
    if capacity == 0:
        return [(1 + misses, tail) for misses, tail in every_replay(capacity, rest, cached)]
    if len(cached) < capacity:
        return [(1 + misses, tail) for misses, tail in every_replay(capacity, rest, cached + (key,))]
    found = []
    for victim in cached:
        kept = tuple(other for other in cached if other != victim) + (key,)
        found += [(1 + misses, [victim] + tail) for misses, tail in every_replay(capacity, rest, kept)]
    return found


class Model:
    """The cache of the document, told anew: the usage is counted out of a history."""

    def __init__(self, capacity=0, policy=0):
        self.capacity = capacity
        self.policy = policy
        self.keys = []
        self.history = []
        self.inserted = {}
        self.bits = {}
        self.outcomes = []

    def last_use(self, key):
        return max(place for place, used in enumerate(self.history) if used == key)

    def use_count(self, key):
        return self.history[self.inserted[key]:].count(key)

    def victim(self):
        """The key to be evicted and the list as it is once it may be taken out."""
        if self.policy == FIRST_IN:
            return self.keys[0], self.keys
        if self.policy == LEAST_RECENT:
            return sorted(self.keys, key=self.last_use)[0], self.keys
        if self.policy == MOST_RECENT:
            return sorted(self.keys, key=self.last_use)[-1], self.keys
        if self.policy == LEAST_FREQUENT:
            rank = {key: (self.use_count(key), self.last_use(key)) for key in self.keys}
            return sorted(self.keys, key=rank.get)[0], self.keys
        clear = [place for place, key in enumerate(self.keys) if not self.bits[key]]
        turn = clear[0] if clear else 0
        turned = self.keys[turn:] + self.keys[:turn]
        return turned[0], turned

    def is_full(self):
        return self.capacity > 0 and len(self.keys) == self.capacity

    def next_victim(self):
        return [1, self.victim()[0]] if self.is_full() else [0]

    def access(self, key):
        """Access a key; gives the answer of the call."""
        self.history.append(key)
        hit = key in self.keys
        self.outcomes.append(hit)
        if hit:
            self.bits[key] = 1
            return [1, 0]
        if self.capacity == 0:
            return [0, 0]
        answer = [0, 0]
        if self.is_full():
            victim, turned = self.victim()
            self.passed_over(victim)
            self.keys = [kept for kept in turned if kept != victim]
            answer = [0, 1, victim]
        self.keys.append(key)
        self.inserted[key] = len(self.history) - 1
        self.bits[key] = 0
        return answer

    def passed_over(self, victim):
        if self.policy != SECOND_CHANCE:
            return
        passed = self.keys[:self.keys.index(victim)]
        if self.bits[victim]:
            passed = list(self.keys)
        for key in passed:
            self.bits[key] = 0

    def remove(self, key):
        removed = key in self.keys
        self.keys = [kept for kept in self.keys if kept != key]
        return [int(removed)]

    def contents(self):
        found = [len(self.keys)]
        for key in self.keys:
            found += [key, self.use_count(key), self.bits[key]]
        return found

    def counters(self):
        hits = self.outcomes.count(True)
        return [hits, len(self.outcomes) - hits]
