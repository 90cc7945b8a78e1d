"""create, and what holds while there is no blender."""

import unittest

from tests.asking import AskingCase, GREATEST, ask

OTHER_CALLS = [
    ("add_stream", 10, 40),
    ("remove_stream", 0),
    ("set_stream", 0, 10, 40),
    ("set_flour", 0, 60, 9),
    ("set_feed_price", 2),
    ("get_stream", 0),
    ("set_assignment", []),
    ("get_assignment",),
    ("move_stream", 0, 3),
    ("flour_quality", 0),
    ("ash_margin", 0),
    ("revenue",),
    ("best_assignment",),
    ("apply_best_assignment",),
    ("feasible_count",),
    ("evaluate_assignment", []),
    ("max_first_flour",),
    ("max_first_flour_split",),
    ("best_revenue_for_limit", 0, 60),
    ("value_of_stream", 0),
    ("best_revenue_for_price", 0, 9),
]
WRONG_CALLS = [
    ("add_stream", 0, 301),
    ("add_stream", GREATEST, GREATEST),
    ("remove_stream", GREATEST),
    ("set_stream", GREATEST, GREATEST, GREATEST),
    ("set_flour", 3, 301, 100),
    ("set_flour", 0, 301, 100),
    ("set_feed_price", 100),
    ("get_stream", GREATEST),
    ("set_assignment", [4]),
    ("set_assignment", [GREATEST] * 8),
    ("move_stream", GREATEST, 4),
    ("flour_quality", 3),
    ("ash_margin", 3),
    ("ash_margin", GREATEST),
    ("evaluate_assignment", [4]),
    ("evaluate_assignment", [GREATEST] * 8),
    ("best_revenue_for_limit", 3, 301),
    ("best_revenue_for_limit", 0, 301),
    ("best_revenue_for_limit", GREATEST, GREATEST),
    ("value_of_stream", 6),
    ("value_of_stream", GREATEST),
    ("best_revenue_for_price", 3, 100),
    ("best_revenue_for_price", 0, 100),
    ("best_revenue_for_price", GREATEST, GREATEST),
]


class CreateTest(AskingCase):

    def test_feed_price_and_its_edges(self):
        for feed_price in (0, 1, 2, 98, 99):
            self.assert_answers(
                (("create", feed_price), [0]),
                (("set_feed_price", 5), [feed_price]),
            )

    def test_feed_price_above_its_limit(self):
        for feed_price in (100, 101, 300, GREATEST):
            self.assert_answers((("create", feed_price), [-22]))

    def test_new_blender_is_empty(self):
        self.assert_answers(
            (("create", 7), [0]),
            (("get_assignment",), [0]),
            (("get_stream", 0), [-2]),
            (("set_flour", 0, 1, 1), [0, 0, 0]),
            (("set_flour", 1, 1, 1), [0, 0, 0]),
            (("set_flour", 2, 1, 1), [0, 0, 0]),
            (("flour_quality", 0), [-33]),
            (("flour_quality", 1), [-33]),
            (("flour_quality", 2), [-33]),
            (("set_assignment", []), [0]),
            (("evaluate_assignment", []), [0]),
            (("ash_margin", 2), [0]),
            (("revenue",), [0]),
            (("best_assignment",), [0]),
            (("feasible_count",), [1]),
            (("set_feed_price", 8), [7]),
        )

    def test_accepted_create_replaces_the_blender(self):
        self.assert_answers(
            (("create", 2), [0]),
            (("add_stream", 10, 40), [0]),
            (("set_flour", 1, 60, 9), [0, 0, 0]),
            (("move_stream", 0, 1), [3]),
            (("create", 5), [0]),
            (("get_assignment",), [0]),
            (("flour_quality", 1), [-33]),
            (("set_flour", 1, 30, 3), [0, 0, 0]),
            (("set_feed_price", 1), [5]),
            (("add_stream", 20, 80), [0]),
            (("get_stream", 0), [20, 80, 3]),
        )

    def test_refused_create_keeps_the_blender(self):
        start = [("create", 2), ("add_stream", 10, 40), ("set_flour", 1, 60, 9), ("move_stream", 0, 1)]
        for feed_price in (100, GREATEST):
            self.assert_refused_without_change(start, ("create", feed_price), -22)


class NoBlenderTest(AskingCase):

    def test_every_other_call_is_refused(self):
        for call in OTHER_CALLS:
            self.assert_answers((call, [-11]))

    def test_it_comes_ahead_of_all_other_errors(self):
        for call in WRONG_CALLS:
            self.assert_answers((call, [-11]))

    def test_refused_create_makes_no_blender(self):
        for call in OTHER_CALLS + WRONG_CALLS:
            self.assert_answers((("create", 100), [-22]), (call, [-11]))

    def test_refused_calls_leave_no_trace_in_a_later_blender(self):
        found = ask(*OTHER_CALLS, *WRONG_CALLS, ("create", 3), ("get_assignment",), ("set_feed_price", 1))
        self.assertEqual(found[-3:], [[0], [0], [3]])


if __name__ == "__main__":
    unittest.main()
