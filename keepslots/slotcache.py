"""The simulated cache: its entries, its counters and its five policies."""

SECOND_CHANCE = 4


class Entry:
    """A cached key with its usage data."""

    def __init__(self, key, last_use):
        self.key = key
        self.last_use = last_use
        self.use_count = 1
        self.reference_bit = 0


def last_use_of(entry):
    return entry.last_use


def use_count_and_last_use_of(entry):
    return (entry.use_count, entry.last_use)


def first_listed(entries):
    return entries[0]


def least_recently_used(entries):
    return min(entries, key=last_use_of)


def most_recently_used(entries):
    return max(entries, key=last_use_of)


def least_frequently_used(entries):
    return min(entries, key=use_count_and_last_use_of)


def first_without_bit(entries):
    for entry in entries:
        if entry.reference_bit == 0:
            return entry
    # Where every bit is set, all are cleared once round, and the first one is first again.
    return entries[0]


VICTIM_CHOICES = {
    0: first_listed,
    1: least_recently_used,
    2: most_recently_used,
    3: least_frequently_used,
    4: first_without_bit,
}


class Cache:
    """A cache of some capacity under some policy, which begins empty."""

    def __init__(self, capacity, policy):
        self.capacity = capacity
        self.policy = policy
        self.entries = []
        self.hits = 0
        self.misses = 0

    def entry_of(self, key):
        for entry in self.entries:
            if entry.key == key:
                return entry
        return None

    def holds(self, key):
        return self.entry_of(key) is not None

    def cached_keys(self):
        return [entry.key for entry in self.entries]

    def access_number(self):
        # Each access is a hit or a miss, so the counters number the accesses.
        return self.hits + self.misses

    def access(self, key):
        """Access a key and give back the list of the keys evicted for it."""
        entry = self.entry_of(key)
        if entry is None:
            self.misses += 1
            return self.take_in(key)
        self.hits += 1
        entry.last_use = self.access_number()
        entry.use_count += 1
        entry.reference_bit = 1
        return []

    def take_in(self, key):
        if self.capacity == 0:
            return []
        evicted = self.make_room()
        self.entries.append(Entry(key, self.access_number()))
        return evicted

    def make_room(self):
        victim = self.next_victim()
        if victim is None:
            return []
        if self.policy == SECOND_CHANCE:
            self.give_second_chances()
        self.remove_key(victim.key)
        return [victim.key]

    def next_victim(self):
        """The entry that a miss would evict now, or None; nothing is changed."""
        if self.capacity == 0 or len(self.entries) < self.capacity:
            return None
        choose = VICTIM_CHOICES[self.policy]
        return choose(self.entries)

    def give_second_chances(self):
        while self.entries[0].reference_bit == 1:
            entry = self.entries.pop(0)
            entry.reference_bit = 0
            self.entries.append(entry)

    def remove_key(self, key):
        """Remove a key and give back how many entries that were, 1 or 0."""
        kept = [entry for entry in self.entries if entry.key != key]
        removed = len(self.entries) - len(kept)
        self.entries = kept
        return removed


def cache_after(capacity, policy, sequence):
    """The cache that was empty and on which a sequence has been accessed."""
    cache = Cache(capacity, policy)
    for key in sequence:
        cache.access(key)
    return cache
