"""ash_margin, revenue and evaluate_assignment."""

import itertools
import unittest

from tests.asking import AskingCase, GREATEST, ask
from tests.reckoning import FREE, NO_STREAM, SIX, TWO, small_blends

BLENDED = TWO.calls() + [("set_assignment", [0, 0])]


class AshMarginTest(AskingCase):

    def test_limit_times_amount_less_ash(self):
        start = TWO.calls() + [("set_assignment", [0, 1])]
        self.assert_last(start + [("ash_margin", 0)], [200])
        self.assert_last(start + [("ash_margin", 1)], [0])
        self.assert_last(start + [("ash_margin", 2)], [0])
        self.assert_last(TWO.calls() + [("set_assignment", [2, 2]), ("ash_margin", 2)], [4800])

    def test_just_at_the_limit(self):
        self.assert_last(BLENDED + [("ash_margin", 0)], [0])
        self.assert_last(BLENDED + [("set_flour", 0, 61, 9), ("ash_margin", 0)], [20])
        self.assert_last(BLENDED + [("set_stream", 1, 10, 79), ("ash_margin", 0)], [10])

    def test_flour_without_streams(self):
        for flour in range(3):
            self.assert_last(NO_STREAM.calls() + [("ash_margin", flour)], [0])
            self.assert_last(FREE.calls() + [("ash_margin", flour)], [0])
        self.assert_last([("create", 2), ("ash_margin", 2)], [0])

    def test_edges_of_the_limit(self):
        start = [("create", 2), ("add_stream", 99, 0), ("set_assignment", [2])]
        self.assert_last(start + [("ash_margin", 2)], [0])
        self.assert_last(start + [("set_flour", 2, 300, 0), ("ash_margin", 2)], [29700])

    def test_six_streams(self):
        calls = [("create", 2), ("set_flour", 1, 300, 0)] + [("add_stream", 99, 0)] * 6
        self.assert_last(calls + [("set_assignment", [1] * 6), ("ash_margin", 1)], [178200])
        destinations = [0, 1, 2, 2, 0, 3]
        start = SIX.calls() + [("set_assignment", destinations)]
        for flour in range(3):
            self.assert_last(start + [("ash_margin", flour)], [SIX.margin(destinations, flour)])

    def test_one_past_the_last_flour(self):
        for flour in (3, 4, GREATEST):
            self.assert_refused_without_change(BLENDED, ("ash_margin", flour), -2)
            self.assert_last([("create", 2), ("ash_margin", flour)], [-2])

    def test_every_assignment_of_small_blenders(self):
        for blend in small_blends(20, 3):
            for destinations in blend.feasible():
                start = blend.calls() + [("set_assignment", destinations)]
                margins = [[blend.margin(destinations, flour)] for flour in range(3)]
                self.assertEqual(ask(*start, *[("ash_margin", flour) for flour in range(3)])[-3:], margins, start)

    def test_changes_nothing(self):
        self.assert_answered_without_change(BLENDED, ("ash_margin", 0), [0])


class RevenueTest(AskingCase):

    def test_sum_over_the_flours_and_feed(self):
        rows = (([0, 0], 180), ([0, 1], 130), ([0, 2], 100), ([0, 3], 110), ([3, 3], 40), ([3, 1], 60), ([2, 2], 20))
        for destinations, revenue in rows:
            self.assert_last(TWO.calls() + [("set_assignment", destinations), ("revenue",)], [revenue])

    def test_no_stream(self):
        self.assert_last(NO_STREAM.calls() + [("revenue",)], [0])
        self.assert_last([("create", 99), ("revenue",)], [0])

    def test_greatest_and_smallest(self):
        self.assert_last(FREE.calls() + [("set_assignment", [1] * 6), ("revenue",)], [58806])
        self.assert_last(FREE.calls() + [("set_assignment", [0] * 6), ("revenue",)], [0])
        self.assert_last([("create", 0), ("add_stream", 99, 300), ("revenue",)], [0])

    def test_changes_show(self):
        self.assert_answers(
            (("create", 2), [0]),
            (("revenue",), [0]),
            (("add_stream", 10, 40), [0]),
            (("revenue",), [20]),
            (("set_feed_price", 3), [2]),
            (("revenue",), [30]),
            (("set_flour", 2, 60, 9), [0, 0, 0]),
            (("revenue",), [30]),
            (("move_stream", 0, 2), [3]),
            (("revenue",), [90]),
            (("set_feed_price", 99), [3]),
            (("revenue",), [90]),
            (("set_flour", 2, 60, 8), [0, 60, 9]),
            (("revenue",), [80]),
            (("set_stream", 0, 11, 40), [0, 10, 40]),
            (("revenue",), [88]),
            (("remove_stream", 0), [0]),
            (("revenue",), [0]),
        )

    def test_changes_nothing(self):
        self.assert_answered_without_change(BLENDED, ("revenue",), [180])

    def test_every_assignment_of_small_blenders(self):
        for blend in small_blends(20, 3):
            for destinations in blend.feasible():
                calls = blend.calls() + [("set_assignment", destinations), ("revenue",)]
                self.assert_last(calls, [blend.revenue(destinations)])


class EvaluateAssignmentTest(AskingCase):

    def test_answers_the_revenue_and_changes_nothing(self):
        rows = (([0, 0], 180), ([0, 1], 130), ([0, 2], 100), ([0, 3], 110), ([3, 3], 40), ([3, 1], 60), ([2, 2], 20))
        for current in ([0, 0], [0, 3], [3, 1]):
            start = TWO.calls() + [("set_assignment", current)]
            for destinations, revenue in rows:
                self.assert_answered_without_change(start, ("evaluate_assignment", destinations), [revenue])

    def test_current_assignment_stays(self):
        for destinations in ([3, 3], [0, 1], [3, 0], [0], [4, 4]):
            calls = BLENDED + [("evaluate_assignment", destinations), ("get_assignment",), ("revenue",)]
            self.assertEqual(ask(*calls)[-2:], [[2, 0, 0], [180]], destinations)

    def test_no_stream(self):
        start = NO_STREAM.calls()
        self.assert_answered_without_change(start, ("evaluate_assignment", []), [0])
        for destinations in ([3], [0], [3] * 6, [3] * 8, [GREATEST] * 8):
            self.assert_refused_without_change(start, ("evaluate_assignment", destinations), -22)

    def test_length_must_be_that_of_the_streams(self):
        for destinations in ([], [0], [0, 0, 3], [3] * 6, [3] * 7, [3] * 8):
            self.assert_refused_without_change(BLENDED, ("evaluate_assignment", destinations), -22)

    def test_six_streams(self):
        self.assert_answered_without_change(FREE.calls(), ("evaluate_assignment", [1] * 6), [58806])
        self.assert_answered_without_change(SIX.calls(), ("evaluate_assignment", [3] * 6), [348])
        for length in (0, 1, 5, 7, 8):
            self.assert_refused_without_change(SIX.calls(), ("evaluate_assignment", [3] * length), -22)

    def test_element_above_three(self):
        for destinations in ([4, 3], [3, 4], [4, 4], [0, GREATEST], [GREATEST, 0], [3, 5]):
            self.assert_refused_without_change(BLENDED, ("evaluate_assignment", destinations), -22)

    def test_just_at_and_just_above_the_limit(self):
        start = BLENDED + [("set_stream", 1, 10, 79)]
        self.assert_last(start + [("set_stream", 1, 10, 80), ("evaluate_assignment", [0, 0])], [180])
        feed = TWO.calls() + [("set_stream", 1, 10, 81)]
        self.assert_refused_without_change(feed, ("evaluate_assignment", [0, 0]), -30)
        self.assert_refused_without_change(BLENDED, ("evaluate_assignment", [3, 0]), -30)
        self.assert_refused_without_change(BLENDED, ("evaluate_assignment", [1, 0]), -30)

    def test_outside_limits_comes_ahead_of_the_ash_limit(self):
        for destinations in ([4, 0], [0], [3, 0, 0], [3, 0, 4]):
            self.assert_refused_without_change(BLENDED, ("evaluate_assignment", destinations), -22)

    def test_every_assignment_is_answered_as_by_set_assignment(self):
        for blend in small_blends(30, 3):
            for destinations in itertools.product(range(5), repeat=len(blend.streams)):
                expected = [-22]
                if 4 not in destinations:
                    expected = [blend.revenue(destinations) if blend.is_feasible(destinations) else -30]
                for name in ("evaluate_assignment", "set_assignment"):
                    self.assert_last(blend.calls() + [(name, list(destinations))], expected)


if __name__ == "__main__":
    unittest.main()
