"""The ranges of the arguments, and the errors outside of them."""

MAX_CAPACITY = 6
MAX_POLICY = 4
MAX_KEY = 9
MAX_LENGTH = 30
MAX_BOUND_SEPARATE = 4
MAX_BOUND_WORST = 3
MAX_LENGTH_SEARCHED = 6


class CapacityRefused(Exception):
    """The capacity is not from 0 to 6."""


class PolicyRefused(Exception):
    """The policy is not from 0 to 4."""


class KeyRefused(Exception):
    """The key is not from 0 to 9."""


class SequenceRefused(Exception):
    """A sequence or a list of evictions has more than 30 elements, or an element is not a key."""


class NoCapacityRefused(Exception):
    """The capacity is 0, where at least 1 is asked for."""


class SearchRefused(Exception):
    """The bound of the keys or the length of a search is out of range."""


def check_capacity(capacity):
    if not 0 <= capacity <= MAX_CAPACITY:
        raise CapacityRefused()


def check_policy(policy):
    if not 0 <= policy <= MAX_POLICY:
        raise PolicyRefused()


def is_key(number):
    return 0 <= number <= MAX_KEY


def check_key(key):
    if not is_key(key):
        raise KeyRefused()


def check_sequence(sequence):
    if len(sequence) > MAX_LENGTH:
        raise SequenceRefused()
    for element in sequence:
        if not is_key(element):
            raise SequenceRefused()


def check_some_capacity(capacity):
    if capacity == 0:
        raise NoCapacityRefused()


def check_search(key_bound, max_bound, length):
    if not 1 <= key_bound <= max_bound:
        raise SearchRefused()
    if not 0 <= length <= MAX_LENGTH_SEARCHED:
        raise SearchRefused()
