"""best_assignment, apply_best_assignment and feasible_count."""

import unittest

from tests.asking import AskingCase, ask
from tests.reckoning import FREE, NO_STREAM, SIX, TWO, Blend, small_blends

CLOSED = (0, 0)


class BestAssignmentTest(AskingCase):

    def assert_best(self, blend, expected):
        self.assert_last(blend.calls() + [("best_assignment",)], expected)

    def test_whole_streams(self):
        self.assert_best(TWO, [180, 0, 0])
        self.assert_best(Blend([(10, 40), (20, 80)], [(60, 9), CLOSED, CLOSED], 2), [130, 0, 3])

    def test_no_stream(self):
        self.assert_answered_without_change(NO_STREAM.calls(), ("best_assignment",), [0])
        self.assert_last([("create", 99), ("best_assignment",)], [0])

    def test_six_streams(self):
        self.assert_best(SIX, SIX.best())
        self.assert_best(FREE, [58806, 1, 1, 1, 1, 1, 1])
        same = Blend([(99, 300)] * 6, [(300, 5), (300, 5), (300, 5)], 5)
        self.assert_best(same, [2970, 0, 0, 0, 0, 0, 0])

    def test_all_to_feed_where_no_flour_takes_any(self):
        self.assert_best(Blend([(99, 300)] * 6, [(299, 99)] * 3, 0), [0, 3, 3, 3, 3, 3, 3])
        self.assert_best(Blend([(5, 1)], [(0, 99)] * 3, 7), [35, 3])

    def test_feed_above_every_flour(self):
        self.assert_best(Blend([(10, 40), (20, 80)], [(300, 9), (300, 8), (300, 7)], 10), [300, 3, 3])
        self.assert_best(Blend([(10, 40), (20, 80)], [(300, 9), (300, 8), (300, 9)], 9), [270, 0, 0])
        self.assert_best(Blend([(10, 40), (20, 80)], [(300, 8), (300, 9), (300, 9)], 9), [270, 1, 1])
        self.assert_best(Blend([(10, 40), (20, 80)], [(300, 8), (300, 8), (300, 9)], 9), [270, 2, 2])

    def test_smallest_list_where_all_prices_are_zero(self):
        self.assert_best(Blend([(10, 40), (10, 80)], [(60, 0), (80, 0), (300, 0)], 0), [0, 0, 0])
        self.assert_best(Blend([(10, 40), (11, 80)], [(60, 0), (80, 0), (300, 0)], 0), [0, 0, 1])
        self.assert_best(Blend([(10, 40), (11, 81)], [(60, 0), (60, 0), (300, 0)], 0), [0, 0, 2])
        self.assert_best(Blend([(10, 40), (11, 81)], [(60, 0), (60, 0), (60, 0)], 0), [0, 0, 3])
        self.assert_best(Blend([(10, 80), (1, 40), (10, 40)], [(60, 0)] + [CLOSED] * 2, 0), [0, 0, 0, 0])

    def test_smallest_list_of_several_with_the_highest_revenue(self):
        # Either of the equal streams has room beside the clean one, not both.
        clean = Blend([(10, 70), (10, 70), (10, 50)], [(60, 9)] + [CLOSED] * 2, 2)
        self.assert_best(clean, [200, 0, 3, 0])
        # The last one has room beside it for the first stream or for the two others, as much either way.
        split = Blend([(20, 80), (10, 80), (10, 80), (20, 40)], [(60, 5), CLOSED, CLOSED], 1)
        self.assert_best(split, [220, 0, 3, 3, 0])
        self.assert_best(Blend([(1, 0), (1, 0)], [(0, 3), (0, 3), (0, 3)], 3), [6, 0, 0])

    def test_a_stream_that_earns_less_may_carry_one_that_earns_more(self):
        # The small clean stream earns more in feed, but flour 1 needs it.
        self.assert_best(Blend([(2, 0), (50, 62)], [CLOSED, (60, 9), CLOSED], 8), [468, 1, 1])
        self.assert_best(Blend([(1, 0), (50, 62)], [CLOSED, (60, 9), CLOSED], 8), [409, 1, 3])

    def test_edges_of_limits_and_prices(self):
        self.assert_best(Blend([(99, 0), (99, 1)], [(0, 99), (0, 98), (0, 97)], 0), [9801, 0, 3])
        self.assert_best(Blend([(99, 300)], [(300, 0), (300, 0), (300, 99)], 98), [9801, 2])
        self.assert_best(Blend([(99, 300)], [(300, 0), (300, 99), (299, 99)], 99), [9801, 1])

    def test_small_blenders(self):
        for blend in small_blends(300):
            self.assert_best(blend, blend.best())

    def test_larger_blenders(self):
        for blend in small_blends(12, 6):
            self.assert_best(blend, blend.best())

    def test_current_assignment_neither_counts_nor_changes(self):
        for current in SIX.feasible()[::300]:
            start = SIX.calls() + [("set_assignment", current)]
            self.assert_answered_without_change(start, ("best_assignment",), SIX.best())


class ApplyBestAssignmentTest(AskingCase):

    def test_makes_it_the_current_one(self):
        for blend in [NO_STREAM, TWO, SIX, FREE] + small_blends(60):
            revenue, *destinations = blend.best()
            calls = blend.calls() + [("apply_best_assignment",), ("get_assignment",), ("revenue",)]
            found = ask(*calls)[-3:]
            self.assertEqual(found, [[revenue], [len(destinations)] + destinations, [revenue]], calls)

    def test_replaces_whatever_was_current(self):
        for current in TWO.feasible():
            calls = TWO.calls() + [("set_assignment", current), ("apply_best_assignment",), ("get_assignment",)]
            self.assertEqual(ask(*calls)[-2:], [[180], [2, 0, 0]], current)

    def test_later_changes_start_from_it(self):
        start = TWO.calls() + [("apply_best_assignment",)]
        self.assert_last(start + [("move_stream", 1, 3)], [0])
        self.assert_last(start + [("flour_quality", 0)], [0, 20, 60, 1])
        self.assert_refused_without_change(start, ("remove_stream", 0), -30)
        self.assert_last(start + [("set_flour", 1, 80, 99), ("get_assignment",)], [2, 0, 0])

    def test_again_is_the_same(self):
        calls = SIX.calls() + [("apply_best_assignment",), ("apply_best_assignment",), ("best_assignment",)]
        self.assertEqual(ask(*calls)[-3:], [SIX.best()[:1], SIX.best()[:1], SIX.best()])


class FeasibleCountTest(AskingCase):

    def assert_count(self, blend, expected):
        self.assert_last(blend.calls() + [("feasible_count",)], [expected])

    def test_no_stream(self):
        self.assert_count(NO_STREAM, 1)
        self.assert_last([("create", 0), ("feasible_count",)], [1])

    def test_all_are_feasible(self):
        for count in range(7):
            self.assert_count(Blend([(99, 300)] * count, [(300, 0)] * 3, 2), 4 ** count)
            self.assert_count(Blend([(1, 0)] * count, [CLOSED] * 3, 2), 4 ** count)

    def test_feed_alone(self):
        for count in range(7):
            self.assert_count(Blend([(1, 1)] * count, [CLOSED] * 3, 2), 1)
            self.assert_count(Blend([(99, 300)] * count, [(299, 99)] * 3, 2), 1)

    def test_streams_that_no_flour_may_take_alone(self):
        # The second one goes to flour 0 beside the first: 00, 03 and 33.
        self.assert_count(Blend([(10, 40), (10, 80)], [(60, 9), CLOSED, CLOSED], 2), 3)
        self.assert_count(Blend([(10, 80), (10, 40)], [(60, 9), CLOSED, CLOSED], 2), 3)
        self.assert_count(Blend([(10, 40), (10, 81)], [(60, 9), CLOSED, CLOSED], 2), 2)
        # Each flour takes both or the first alone.
        self.assert_count(Blend([(10, 40), (10, 80)], [(60, 9)] * 3, 2), 7)
        # The two others go there one by one, or both, but never without the first.
        self.assert_count(Blend([(10, 80), (10, 40), (5, 80)], [(60, 9), CLOSED, CLOSED], 2), 4)
        self.assert_count(Blend([(5, 80), (5, 80), (10, 40)], [(60, 9), CLOSED, CLOSED], 2), 5)

    def test_flours_are_told_apart(self):
        for flour in range(3):
            flours = [(10, 0)] * 3
            flours[flour] = (11, 0)
            self.assert_count(Blend([(4, 11)], flours, 0), 2)

    def test_small_blenders(self):
        for blend in small_blends(150) + small_blends(12, 6):
            self.assert_count(blend, len(blend.feasible()))

    def test_exactly_those_that_set_assignment_takes(self):
        for blend in (TWO, Blend([(10, 40), (20, 80), (7, 61)], [(60, 9), (70, 5), (0, 50)], 2)):
            self.assert_count(blend, len(blend.feasible()))

    def test_changes_nothing(self):
        start = SIX.calls() + [("set_assignment", [0, 1, 2, 2, 0, 3])]
        self.assert_answered_without_change(start, ("feasible_count",), [len(SIX.feasible())])


if __name__ == "__main__":
    unittest.main()
