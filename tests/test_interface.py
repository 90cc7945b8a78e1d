"""The form of what is handed in and of what is answered, and the document's examples."""

import unittest

from flourashes.blending import answers
from tests.asking import AskingCase, GREATEST, ask, written
from tests.reckoning import FREE, SIX

# Every call once, accepted and refused, as the numbers that are handed in and answered.
ROWS = (
    ([0, 100], [1, -22]),
    ([8], [1, -11]),
    ([7, 8, 0, 1, 2, 3, 4, 5, 6, 7], [1, -11]),
    ([16, 8, 0, 1, 2, 3, 4, 5, 6, 7], [1, -11]),
    ([11, 3], [1, -11]),
    ([12], [1, -11]),
    ([13], [1, -11]),
    ([14], [1, -11]),
    ([15], [1, -11]),
    ([16, 0], [1, -11]),
    ([17], [1, -11]),
    ([18], [1, -11]),
    ([19, 3, 301], [1, -11]),
    ([20, 0], [1, -11]),
    ([21, 3, 100], [1, -11]),
    ([0, 2], [1, 0]),
    ([8], [1, 0]),
    ([7, 0], [1, 0]),
    ([13], [1, 0]),
    ([14], [1, 0]),
    ([15], [1, 1]),
    ([16, 0], [1, 0]),
    ([17], [1, 0]),
    ([18], [3, 0, 0, 1]),
    ([20, 0], [1, -2]),
    ([1, 10, 40], [1, 0]),
    ([1, 20, 80], [1, 1]),
    ([1, 0, 80], [1, -22]),
    ([4, 0, 60, 9], [3, 0, 0, 0]),
    ([7, 2, 0, 3], [1, 130]),
    ([7, 2, 0, 0], [1, -30]),
    ([7, 1, 0], [1, -22]),
    ([8], [3, 2, 0, 3]),
    ([10, 0], [4, 0, 10, 40, 1]),
    ([10, 1], [1, -33]),
    ([11, 0], [1, 200]),
    ([11, 3], [1, -2]),
    ([12], [1, 130]),
    ([13], [3, 130, 0, 3]),
    ([14], [1, 130]),
    ([15], [1, 2]),
    ([16, 2, 3, 3], [1, 60]),
    ([16, 2, 0, 0], [1, -30]),
    ([16, 3, 0, 3, 3], [1, -22]),
    ([17], [3, 10, 0, 3]),
    ([18], [3, 0, 20, 1]),
    ([19, 0, 67], [1, 270]),
    ([19, 3, 67], [1, -2]),
    ([19, 0, 301], [1, -22]),
    ([20, 0], [2, 0, 90]),
    ([20, 2], [1, -2]),
    ([21, 0, 2], [1, 60]),
    ([21, 3, 2], [1, -2]),
    ([21, 0, 100], [1, -22]),
    ([6, 0], [3, 10, 40, 0]),
    ([6, 2], [1, -2]),
    ([3, 1, 30, 60], [3, 0, 20, 80]),
    ([3, 1, 100, 60], [1, -22]),
    ([9, 1, 0], [1, 3]),
    ([9, 1, 4], [1, -22]),
    ([10, 0], [4, 0, 40, 55, 1]),
    ([5, 7], [1, 2]),
    ([5, 100], [1, -22]),
    ([2, 0], [1, 1]),
    ([2, 1], [1, -2]),
    ([8], [2, 1, 0]),
)


class InterfaceTest(AskingCase):

    def test_counts_stand_ahead_of_each_answer(self):
        calls = []
        expected = []
        for row, answer in ROWS:
            calls.extend(row)
            expected.extend(answer)
        self.assertEqual(answers(calls), expected)

    def test_each_beginning_of_the_calls(self):
        calls = []
        expected = []
        for row, answer in ROWS:
            calls.extend(row)
            expected.extend(answer)
            self.assertEqual(answers(list(calls)), expected)

    def test_answers_are_whole_numbers_in_a_list(self):
        calls = [number for row, _ in ROWS for number in row]
        found = answers(calls)
        self.assertIs(type(found), list)
        for number in found:
            self.assertIs(type(number), int)

    def test_what_is_handed_in_stays_as_it_was(self):
        calls = [number for row, _ in ROWS for number in row]
        kept = list(calls)
        answers(calls)
        self.assertEqual(calls, kept)

    def test_what_is_handed_in_may_be_changed_afterwards(self):
        calls = written([("create", 2), ("add_stream", 10, 40), ("set_assignment", [3]), ("get_assignment",)])
        found = answers(calls)
        kept = list(found)
        calls.clear()
        self.assertEqual(found, kept)

    def test_each_time_is_as_if_for_the_first_time(self):
        calls = [number for row, _ in ROWS for number in row]
        first = answers(calls)
        first_kept = list(first)
        self.assertEqual(answers([8]), [1, -11])
        self.assertEqual(answers([0, 3, 5, 4]), [1, 0, 1, 3])
        self.assertEqual(answers(calls), first_kept)
        first.clear()
        self.assertEqual(answers(calls), first_kept)

    def test_one_call(self):
        self.assertEqual(answers([0, 0]), [1, 0])
        self.assertEqual(answers([8]), [1, -11])

    def test_sixty_calls(self):
        pairs = [(("create", 2), [0]), (("set_flour", 0, 60, 9), [0, 0, 0])]
        for number in range(6):
            pairs.append((("add_stream", 10, 60), [number]))
        pairs.append((("add_stream", 10, 60), [-28]))
        while len(pairs) < 60:
            pairs.append((("set_assignment", [0, 0, 0, 3, 3, 3]), [330]))
            pairs.append((("get_assignment",), [6, 0, 0, 0, 3, 3, 3]))
            pairs.append((("set_assignment", [GREATEST] * 8), [-22]))
        self.assertEqual(len(pairs), 60)
        self.assert_answers(*pairs)

    def test_sixty_calls_that_search_on_six_streams(self):
        pairs = [(call, [0, 0, 0] if call[0] == "set_flour" else None) for call in SIX.calls()]
        searches = [
            (("best_assignment",), SIX.best()),
            (("feasible_count",), [len(SIX.feasible())]),
            (("evaluate_assignment", SIX.best()[1:]), SIX.best()[:1]),
            (("max_first_flour",), SIX.first_flour()),
            (("max_first_flour_split",), SIX.split()),
            (("best_revenue_for_limit", 0, 60), SIX.best()[:1]),
            (("value_of_stream", 5), [0, SIX.best()[0] - SIX.without(5).best()[0]]),
            (("best_revenue_for_price", 0, 9), SIX.best()[:1]),
            (("apply_best_assignment",), SIX.best()[:1]),
        ]
        while len(pairs) < 60:
            pairs.append(searches[len(pairs) % len(searches)])
        found = ask(*[call for call, _ in pairs])
        self.assertEqual(len(found), 60)
        for (call, expected), answer in list(zip(pairs, found))[7:]:
            self.assertEqual(answer, expected, call)

    def test_sixty_calls_where_every_assignment_is_feasible(self):
        start = FREE.calls()
        rest = 60 - len(start)
        self.assertEqual(ask(*start, *[("best_assignment",)] * rest)[-rest:], [[58806] + [1] * 6] * rest)
        self.assertEqual(ask(*start, *[("value_of_stream", 5)] * rest)[-rest:], [[0, 9801]] * rest)

    def test_longest_list_of_calls(self):
        for name in ("set_assignment", "evaluate_assignment"):
            calls = written([(name, [3] * 8)] * 60)
            self.assertEqual(len(calls), 600)
            self.assertEqual(answers(calls), [1, -11] * 60)

    def test_numbers_of_a_list_are_not_taken_for_calls(self):
        # The eight numbers read as create and add_stream, were they calls.
        for name in ("set_assignment", "evaluate_assignment"):
            found = ask(("create", 2), (name, [0, 5, 1, 1, 1, 1, 2, 2]), ("get_assignment",))
            self.assertEqual(found, [[0], [-22], [0]])

    def test_answered_lists_are_not_the_ones_that_are_kept(self):
        start = [("create", 2), ("set_flour", 0, 60, 9), ("add_stream", 10, 40), ("apply_best_assignment",)]
        found = ask(*start, ("best_assignment",), ("get_assignment",), ("move_stream", 0, 3), ("get_assignment",))
        self.assertEqual(found[-4:], [[90, 0], [1, 0], [0], [1, 3]])


class ExamplesTest(AskingCase):

    def test_whole_request(self):
        self.assert_answers(
            (("create", 2), [0]),
            (("add_stream", 10, 40), [0]),
            (("add_stream", 20, 80), [1]),
            (("set_flour", 0, 60, 9), [0, 0, 0]),
            (("best_assignment",), [130, 0, 3]),
            (("apply_best_assignment",), [130]),
            (("flour_quality", 0), [0, 10, 40, 1]),
            (("max_first_flour_split",), [0, 20, 1]),
            (("set_flour", 0, 30, 9), [-30]),
        )

    def test_as_the_numbers_that_are_handed_in(self):
        calls = [0, 2, 1, 10, 40, 1, 20, 80, 4, 0, 60, 9, 13, 14, 10, 0, 18, 4, 0, 30, 9]
        told = [1, 0, 1, 0, 1, 1, 3, 0, 0, 0, 3, 130, 0, 3, 1, 130, 4, 0, 10, 40, 1, 3, 0, 20, 1, 1, -30]
        self.assertEqual(answers(calls), told)


if __name__ == "__main__":
    unittest.main()
