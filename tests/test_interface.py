"""The layout of calls and answers, the document's examples, and what is left alone."""

import unittest

from keepslots import cachelab
from tests.support import FAR, MOST_CALLS
from tests.support import access, anomaly, configure, contents, counters, farthest, next_victim, optimal
from tests.support import phases, remove, replay, request, separate, simulate, worst


class Layout(unittest.TestCase):
    def test_each_answer_has_its_length_before_it(self):
        calls = [0, 2, 1, 1, 3, 1, 5, 1, 3, 4, 1, 7, 3, 5, 2, 9, 6, 2, 0, 3, 4, 5, 4]
        expected = [1, 0, 2, 0, 0, 2, 0, 0, 2, 1, 0, 2, 1, 5, 3, 0, 1, 5]
        expected += [7, 2, 3, 2, 1, 7, 1, 0, 2, 1, 3, 1, 0, 4, 2, 2, 4, 5]
        self.assertEqual(cachelab.answers(calls), expected)

    def test_offline_answers_have_their_lengths_before_them(self):
        calls = [7, 2, 4, 0, 1, 2, 0, 8, 2, 4, 0, 1, 2, 0, 9, 2, 3, 0, 1, 2, 1, 0, 9, 0, 0, 1, 4]
        expected = [3, 3, 1, 1, 3, 3, 1, 1, 2, 1, 3, 2, 0, 0]
        calls += [10, 2, 3, 6, 7, 8, 10, 6, 0, 11, 0, 1, 1, 2, 3, 12, 4, 0, 1, 2, 13, 0, 3, 2, 1, 1]
        expected += [3, 2, 0, 2, 1, 0, 6, 1, 1, 3, 0, 0, 0, 5, 2, 2, 2, 0, 0, 1, 0]
        calls += [13, 4, 6, 17, 8, 0, 0, 3, 9, 3, 5, 0, 8, 5, 9, 6, 2, 7, 5, 1, 2]
        expected += [4, 1, 17, 9, 10]
        self.assertEqual(cachelab.answers(calls), expected)

    def test_offline_errors_are_their_codes_alone(self):
        calls = [7, 7, 1, 10, 7, 6, 1, 10, 8, -1, 0, 8, 0, 1, 10, 9, 7, 1, 10, 1, 10, 9, 1, 0, 1, 10]
        expected = [1, -1, 1, -4, 1, -1, 1, -4, 1, -1, 1, -4]
        calls += [10, 7, 0, 10, 0, 1, 10, 10, 1, 1, 10, 11, 5, 5, 7, 5, 7, 11, 0, 5, 6, 5, 7, 11, 0, 0, 0, 5, 6]
        expected += [1, -1, 1, -5, 1, -4, 1, -1, 1, -2, 1, -6]
        calls += [12, 5, 7, 4, 7, 12, 5, 6, 4, 7, 12, 4, 6, 3, 7, 13, 5, 7, 0, 13, 5, 6, 1, 10, 13, 4, 6, 1, 10]
        expected += [1, -1, 1, -2, 1, -6, 1, -1, 1, -2, 1, -4]
        self.assertEqual(cachelab.answers(calls), expected)

    def test_an_error_is_its_code_alone(self):
        calls = [0, 7, 5, 0, 6, 5, 1, 10, 2, -1, 6, 7, 5, 1, 10, 6, 6, 5, 1, 10, 6, 6, 4, 1, 10]
        expected = [1, -1, 1, -2, 1, -3, 1, -3, 1, -1, 1, -2, 1, -4]
        self.assertEqual(cachelab.answers(calls), expected)

    def test_answers_are_whole_numbers(self):
        calls = configure(1, 4) + access(3) + access(3) + access(4) + remove(4) + remove(4)
        calls += contents() + next_victim() + counters() + simulate(2, 0, [1, 2, 3])
        calls += optimal(1, [1, 2]) + farthest(1, [1, 2]) + replay(1, [1, 2], [1]) + replay(1, [1, 2], [2])
        calls += phases(1, [1, 2]) + phases(0, []) + separate(0, 1, 2, 3, 4) + worst(0, 1, 2, 3)
        calls += anomaly(0, 1, [1, 2]) + anomaly(0, 3, [0, 1, 2, 3, 0, 1, 4, 0, 1, 2, 3, 4])
        told = cachelab.answers(calls)
        self.assertIs(type(told), list)
        self.assertEqual({type(number) for number in told}, {int})

    def test_any_call_can_come_first(self):
        self.assertEqual(cachelab.answers([1, 3]), [2, 0, 0])
        self.assertEqual(cachelab.answers([2, 3]), [1, 0])
        self.assertEqual(cachelab.answers([3]), [1, 0])
        self.assertEqual(cachelab.answers([4]), [1, 0])
        self.assertEqual(cachelab.answers([5]), [2, 0, 0])
        self.assertEqual(cachelab.answers([6, 0, 0, 0]), [2, 0, 0])
        self.assertEqual(cachelab.answers([7, 0, 0]), [2, 0, 0])
        self.assertEqual(cachelab.answers([8, 0, 0]), [2, 0, 0])
        self.assertEqual(cachelab.answers([9, 0, 0, 0]), [2, 1, 0])
        self.assertEqual(cachelab.answers([10, 1, 0]), [1, 0])
        self.assertEqual(cachelab.answers([11, 0, 0, 0, 1, 0]), [3, 0, 0, 0])
        self.assertEqual(cachelab.answers([12, 0, 0, 1, 0]), [3, 0, 0, 0])
        self.assertEqual(cachelab.answers([13, 0, 0, 0]), [1, 0])

    def test_60_calls_with_long_rows(self):
        for call in [simulate(6, 4, [1023] * 100), replay(6, [1023] * 100, [1023] * 100)]:
            self.assertEqual(request(*[call] * MOST_CALLS), [[-4]] * MOST_CALLS)

    def test_unknown_operation_is_not_answered(self):
        for number in [-1, 14, FAR]:
            with self.assertRaises(KeyError):
                cachelab.answers([number])


class Examples(unittest.TestCase):
    def test_all_as_one_list_of_calls(self):
        belady = [0, 1, 2, 3, 0, 1, 4, 0, 1, 2, 3, 4]
        rows = [
            (configure(2, 1), [0]),
            (access(3), [0, 0]),
            (access(5), [0, 0]),
            (access(3), [1, 0]),
            (next_victim(), [1, 5]),
            (access(7), [0, 1, 5]),
            (contents(), [2, 3, 2, 1, 7, 1, 0]),
            (counters(), [1, 3]),
            (simulate(2, 0, [3, 5, 3, 7, 3]), [4, 2, 7, 3]),
            (simulate(2, 1, [3, 5, 3, 7, 3]), [3, 2, 3, 7]),
            (optimal(2, [3, 5, 3, 7, 3]), [3, 1, 5]),
            (farthest(2, [3, 5, 3, 7, 3]), [3, 1, 5]),
            (replay(2, [3, 5, 3, 7, 3], [5]), [1, 3]),
            (replay(2, [3, 5, 3, 7, 3], [7]), [0, 3]),
            (replay(2, [3, 5, 3, 7, 3], [5, 3]), [0, 5]),
            (phases(2, [3, 5, 3, 7, 3]), [2, 0, 3]),
            (anomaly(0, 3, belady), [1, 12, 9, 10]),
            (anomaly(1, 3, belady), [0]),
            (simulate(3, 4, [1, 2, 3, 1, 4, 1, 5]), [5, 3, 1, 4, 5]),
            (remove(3), [1]),
            (contents(), [1, 7, 1, 0]),
            (configure(7, 0), [-1]),
            (access(10), [-3]),
        ]
        self.assertEqual(request(*[call for call, _ in rows]), [answer for _, answer in rows])


class LeftAlone(unittest.TestCase):
    calls = [0, 2, 4, 1, 3, 1, 5, 1, 3, 1, 7, 2, 5, 6, 2, 1, 4, 3, 5, 7, 3, 6, 2, 1, 2, 10, 3, 3, 4, 5, 1, 10]
    calls += [7, 2, 5, 3, 5, 3, 7, 3, 8, 2, 5, 3, 5, 3, 7, 3, 9, 2, 5, 3, 5, 3, 7, 3, 2, 5, 3]
    calls += [10, 2, 5, 3, 5, 3, 7, 3, 11, 0, 1, 2, 3, 5, 12, 0, 2, 3, 5, 13, 0, 3, 4, 1, 2, 3, 1]
    calls += [7, 7, 1, 3, 9, 1, 1, 3, 1, 10, 10, 0, 1, 3, 11, 0, 0, 1, 5, 6, 12, 5, 1, 1, 1, 13, 0, 0, 2, 3, 10]

    def test_list_handed_in_is_the_same_after(self):
        handed_in = list(self.calls)
        cachelab.answers(handed_in)
        self.assertEqual(handed_in, self.calls)

    def test_list_handed_in_is_not_changed_for_a_while(self):
        class Sealed(list):
            def refuse(self, *arguments):
                raise AssertionError("the list handed in was changed")

            append = clear = extend = insert = pop = remove = reverse = sort = refuse
            __setitem__ = __delitem__ = __iadd__ = __imul__ = refuse

        self.assertEqual(cachelab.answers(Sealed(self.calls)), cachelab.answers(list(self.calls)))

    def test_nothing_is_kept(self):
        first = cachelab.answers(list(self.calls))
        self.assertEqual(cachelab.answers(list(self.calls)), first)
        self.assertEqual(request(contents(), counters(), access(3)), [[0], [0, 0], [0, 0]])

    def test_answers_are_a_new_list_each_time(self):
        first = cachelab.answers([5])
        first.append(1)
        self.assertEqual(cachelab.answers([5]), [2, 0, 0])
