"""set_assignment, get_assignment and move_stream."""

import unittest

from tests.asking import AskingCase, GREATEST

# Both streams together are just at the limit of flour 0: 10 * 40 + 10 * 80 == 60 * 20.
TWO = [
    ("create", 2),
    ("add_stream", 10, 40),
    ("add_stream", 10, 80),
    ("set_flour", 0, 60, 9),
    ("set_flour", 1, 80, 4),
    ("set_flour", 2, 300, 1),
]
THREE = TWO + [("add_stream", 1, 61), ("set_assignment", [0, 0, 1])]
SIX = [("create", 2)] + [("add_stream", 10 + number, 40) for number in range(6)]


class SetAssignmentTest(AskingCase):

    def test_replaces_the_assignment(self):
        for destinations in ([0, 0], [0, 1], [0, 2], [0, 3], [1, 2], [2, 1], [3, 3]):
            calls = TWO + [("set_assignment", destinations), ("get_assignment",)]
            self.assert_last(calls, [2] + destinations)

    def test_answers_the_revenue(self):
        rows = (([0, 0], 180), ([0, 1], 130), ([0, 2], 100), ([0, 3], 110), ([3, 3], 40), ([3, 1], 60), ([2, 2], 20))
        for destinations, revenue in rows:
            self.assert_last(TWO + [("set_assignment", destinations)], [revenue])

    def test_greatest_and_smallest_revenue(self):
        start = [("create", 99), ("set_flour", 1, 300, 99)] + [("add_stream", 99, 300)] * 6
        self.assert_last(start + [("set_assignment", [1, 1, 1, 3, 3, 3])], [58806])
        self.assert_last([("create", 0), ("add_stream", 99, 300), ("set_assignment", [3])], [0])

    def test_length_must_be_that_of_the_streams(self):
        for destinations in ([], [0], [0, 0, 3], [3] * 6, [3] * 7, [3] * 8):
            start = TWO + [("set_assignment", [0, 0])]
            self.assert_refused_without_change(start, ("set_assignment", destinations), -22)

    def test_none_for_no_streams(self):
        start = [("create", 2)]
        self.assert_last(start + [("set_assignment", [])], [0])
        for destinations in ([3], [0], [3] * 8, [GREATEST] * 8):
            self.assert_refused_without_change(start, ("set_assignment", destinations), -22)

    def test_six_streams(self):
        self.assert_last(SIX + [("set_assignment", [3] * 6)], [150])
        for length in (0, 1, 5, 7, 8):
            self.assert_refused_without_change(SIX, ("set_assignment", [3] * length), -22)

    def test_element_above_three(self):
        start = TWO + [("set_assignment", [0, 3])]
        for destinations in ([4, 3], [3, 4], [4, 4], [0, GREATEST], [GREATEST, 0], [3, 5]):
            self.assert_refused_without_change(start, ("set_assignment", destinations), -22)

    def test_just_at_and_just_above_the_limit(self):
        self.assert_last(THREE + [("set_assignment", [0, 0, 3])], [182])
        self.assert_refused_without_change(THREE, ("set_assignment", [0, 0, 0]), -30)
        self.assert_refused_without_change(THREE, ("set_assignment", [3, 0, 3]), -30)
        self.assert_last(THREE + [("set_stream", 2, 1, 60), ("set_assignment", [0, 0, 0])], [189])

    def test_every_flour_has_its_own_limit(self):
        limits = (10, 20, 30)
        for flour, limit in enumerate(limits):
            for ash, expected in ((limit, [0]), (limit + 1, [-30])):
                calls = [("create", 0), ("add_stream", 7, ash)]
                calls += [("set_flour", number, other, 0) for number, other in enumerate(limits)]
                self.assert_last(calls + [("set_assignment", [flour])], expected)

    def test_outside_limits_comes_ahead_of_the_ash_limit(self):
        self.assert_refused_without_change(THREE, ("set_assignment", [3, 0, 4]), -22)
        self.assert_refused_without_change(THREE, ("set_assignment", [3, 0]), -22)
        self.assert_refused_without_change(THREE, ("set_assignment", [3, 0, 0, 0]), -22)


class GetAssignmentTest(AskingCase):

    def test_counts_the_streams(self):
        for count in range(7):
            calls = SIX[:1 + count] + [("get_assignment",)]
            self.assert_last(calls, [count] + [3] * count)

    def test_order_is_that_of_the_streams(self):
        self.assert_last(TWO + [("set_assignment", [0, 1]), ("get_assignment",)], [2, 0, 1])
        self.assert_last(THREE + [("get_assignment",)], [3, 0, 0, 1])

    def test_later_changes_show(self):
        self.assert_answers(
            (("create", 2), [0]),
            (("set_flour", 2, 300, 1), [0, 0, 0]),
            (("add_stream", 10, 40), [0]),
            (("add_stream", 10, 80), [1]),
            (("get_assignment",), [2, 3, 3]),
            (("move_stream", 0, 2), [3]),
            (("get_assignment",), [2, 2, 3]),
            (("remove_stream", 0), [1]),
            (("get_assignment",), [1, 3]),
        )


class MoveStreamTest(AskingCase):

    def test_answers_the_previous_destination(self):
        start = THREE + [("set_assignment", [3, 3, 3])]
        self.assert_last(start + [("move_stream", 0, 0), ("move_stream", 0, 1)], [0])
        self.assert_last(start + [("move_stream", 0, 1), ("move_stream", 0, 2)], [1])
        self.assert_last(start + [("move_stream", 0, 2), ("move_stream", 0, 3)], [2])
        self.assert_last(start + [("move_stream", 0, 3)], [3])

    def test_moves_that_stream_alone(self):
        self.assert_last(THREE + [("move_stream", 1, 2), ("get_assignment",)], [3, 0, 2, 1])
        self.assert_last(THREE + [("move_stream", 2, 3), ("get_assignment",)], [3, 0, 0, 3])
        self.assert_last(THREE + [("move_stream", 2, 3), ("get_stream", 2)], [1, 61, 3])

    def test_first_and_last_and_one_past_it(self):
        self.assert_last(SIX + [("move_stream", 0, 3)], [3])
        self.assert_last(SIX + [("move_stream", 5, 3)], [3])
        for stream in (6, 7, GREATEST):
            self.assert_refused_without_change(SIX, ("move_stream", stream, 3), -2)
        self.assert_last([("create", 2), ("move_stream", 0, 3)], [-2])

    def test_destination_above_three(self):
        for destination in (4, 5, GREATEST):
            self.assert_refused_without_change(THREE, ("move_stream", 0, destination), -22)

    def test_just_at_and_just_above_the_limit(self):
        start = TWO + [("move_stream", 0, 0)]
        self.assert_last(start + [("move_stream", 1, 0)], [3])
        self.assert_refused_without_change(start + [("set_stream", 1, 10, 81)], ("move_stream", 1, 0), -30)
        self.assert_refused_without_change(THREE, ("move_stream", 2, 0), -30)

    def test_the_flour_that_is_left_must_keep_its_limit_too(self):
        for destination in (1, 2, 3):
            self.assert_refused_without_change(THREE, ("move_stream", 0, destination), -30)
        self.assert_last(THREE + [("move_stream", 0, 0)], [0])

    def test_order_of_the_errors(self):
        self.assert_refused_without_change(THREE, ("move_stream", 3, 4), -2)
        self.assert_refused_without_change(THREE, ("move_stream", GREATEST, GREATEST), -2)
        self.assert_refused_without_change(THREE, ("move_stream", 0, 4), -22)


if __name__ == "__main__":
    unittest.main()
