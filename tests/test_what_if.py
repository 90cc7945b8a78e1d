"""best_revenue_for_limit, value_of_stream and best_revenue_for_price."""

import unittest

from tests.asking import AskingCase, GREATEST, ask
from tests.reckoning import FREE, NO_STREAM, SIX, TWO, Blend, small_blends

CLOSED = (0, 0)
BLENDED = SIX.calls() + [("set_assignment", [0, 1, 2, 2, 0, 3])]


class BestRevenueForLimitTest(AskingCase):

    def assert_revenue(self, blend, flour, ash_limit, expected):
        call = ("best_revenue_for_limit", flour, ash_limit)
        self.assert_answered_without_change(blend.calls(), call, [expected])

    def test_another_limit(self):
        self.assert_revenue(TWO, 0, 60, 180)
        self.assert_revenue(TWO, 0, 59, 130)
        self.assert_revenue(TWO, 0, 39, 80)
        self.assert_revenue(TWO, 1, 0, 180)
        self.assert_revenue(Blend([(10, 40), (20, 80)], [(60, 9), CLOSED, CLOSED], 2), 0, 67, 270)
        self.assert_revenue(Blend([(10, 40), (20, 80)], [(60, 9), CLOSED, CLOSED], 2), 0, 66, 130)

    def test_price_of_the_flour_stays(self):
        self.assert_revenue(Blend([(10, 40)], [CLOSED, (0, 7), CLOSED], 2), 1, 40, 70)
        self.assert_revenue(Blend([(10, 40)], [CLOSED, (0, 7), CLOSED], 2), 2, 40, 20)

    def test_edges_of_the_limit(self):
        blend = Blend([(10, 0), (10, 300)], [CLOSED, CLOSED, (100, 9)], 2)
        for ash_limit, expected in ((0, 110), (1, 110), (149, 110), (150, 180), (299, 180), (300, 180)):
            self.assert_revenue(blend, 2, ash_limit, expected)
        for ash_limit in (301, 302, GREATEST):
            self.assert_refused_without_change(blend.calls(), ("best_revenue_for_limit", 2, ash_limit), -22)

    def test_no_stream_and_six(self):
        for flour in range(3):
            for ash_limit in (0, 300):
                self.assert_revenue(NO_STREAM, flour, ash_limit, 0)
                changed = SIX.with_flour(flour, ash_limit, SIX.flours[flour][1])
                self.assert_revenue(SIX, flour, ash_limit, changed.best()[0])
        self.assert_revenue(FREE, 1, 299, 98 * 594)

    def test_the_current_assignment_need_not_keep_that_limit(self):
        call = ("best_revenue_for_limit", 0, 0)
        start = TWO.calls() + [("set_assignment", [0, 0])]
        self.assert_answered_without_change(start, call, [80])
        self.assert_last(start + [call, ("ash_margin", 0)], [0])
        self.assert_last(start + [call, ("revenue",)], [180])

    def test_one_past_the_last_flour(self):
        for flour in (3, 4, GREATEST):
            self.assert_refused_without_change(BLENDED, ("best_revenue_for_limit", flour, 60), -2)
            self.assert_refused_without_change(NO_STREAM.calls(), ("best_revenue_for_limit", flour, 60), -2)

    def test_order_of_the_errors(self):
        self.assert_refused_without_change(BLENDED, ("best_revenue_for_limit", 3, 301), -2)
        self.assert_refused_without_change(BLENDED, ("best_revenue_for_limit", GREATEST, GREATEST), -2)
        self.assert_refused_without_change(BLENDED, ("best_revenue_for_limit", 2, 301), -22)

    def test_small_blenders(self):
        for blend in small_blends(80, 3):
            for flour in range(3):
                for ash_limit in (0, 40, 60, 61, 300):
                    expected = blend.with_flour(flour, ash_limit, blend.flours[flour][1]).best()[0]
                    self.assert_last(blend.calls() + [("best_revenue_for_limit", flour, ash_limit)], [expected])


class BestRevenueForPriceTest(AskingCase):

    def assert_revenue(self, blend, flour, price, expected):
        call = ("best_revenue_for_price", flour, price)
        self.assert_answered_without_change(blend.calls(), call, [expected])

    def test_another_price(self):
        self.assert_revenue(TWO, 0, 9, 180)
        self.assert_revenue(TWO, 0, 10, 200)
        self.assert_revenue(TWO, 0, 3, 80)
        self.assert_revenue(TWO, 1, 12, 240)
        self.assert_revenue(TWO, 1, 9, 180)
        self.assert_revenue(TWO, 2, 30, 600)

    def test_limit_of_the_flour_stays(self):
        self.assert_revenue(Blend([(10, 40)], [CLOSED, (39, 7), CLOSED], 2), 1, 99, 20)
        self.assert_revenue(Blend([(10, 40)], [CLOSED, (40, 7), CLOSED], 2), 1, 99, 990)

    def test_edges_of_the_price(self):
        blend = Blend([(10, 40)], [CLOSED, CLOSED, (40, 50)], 2)
        for price, expected in ((0, 20), (1, 20), (2, 20), (3, 30), (98, 980), (99, 990)):
            self.assert_revenue(blend, 2, price, expected)
        for price in (100, 101, GREATEST):
            self.assert_refused_without_change(blend.calls(), ("best_revenue_for_price", 2, price), -22)

    def test_no_stream_and_six(self):
        for flour in range(3):
            for price in (0, 99):
                self.assert_revenue(NO_STREAM, flour, price, 0)
                changed = SIX.with_flour(flour, SIX.flours[flour][0], price)
                self.assert_revenue(SIX, flour, price, changed.best()[0])
        self.assert_revenue(FREE, 1, 0, 98 * 594)

    def test_one_past_the_last_flour(self):
        for flour in (3, 4, GREATEST):
            self.assert_refused_without_change(BLENDED, ("best_revenue_for_price", flour, 9), -2)
            self.assert_refused_without_change(NO_STREAM.calls(), ("best_revenue_for_price", flour, 9), -2)

    def test_order_of_the_errors(self):
        self.assert_refused_without_change(BLENDED, ("best_revenue_for_price", 3, 100), -2)
        self.assert_refused_without_change(BLENDED, ("best_revenue_for_price", GREATEST, GREATEST), -2)
        self.assert_refused_without_change(BLENDED, ("best_revenue_for_price", 2, 100), -22)

    def test_changes_nothing(self):
        self.assert_answered_without_change(BLENDED, ("best_revenue_for_price", 0, 9), SIX.best()[:1])

    def test_small_blenders(self):
        for blend in small_blends(80, 3):
            for flour in range(3):
                for price in (0, 1, 9, 99):
                    expected = blend.with_flour(flour, blend.flours[flour][0], price).best()[0]
                    self.assert_last(blend.calls() + [("best_revenue_for_price", flour, price)], [expected])


class ValueOfStreamTest(AskingCase):

    def assert_value(self, blend, stream, expected):
        self.assert_answered_without_change(blend.calls(), ("value_of_stream", stream), [0, expected])

    def test_what_it_earns_itself(self):
        self.assert_value(Blend([(10, 40)], [(60, 9), CLOSED, CLOSED], 2), 0, 90)
        self.assert_value(Blend([(10, 70)], [(60, 9), CLOSED, CLOSED], 2), 0, 20)
        self.assert_value(TWO, 1, 90)

    def test_a_stream_that_brings_nothing(self):
        self.assert_value(Blend([(10, 40), (99, 300)], [(60, 9), CLOSED, CLOSED], 0), 1, 0)
        self.assert_value(Blend([(10, 40), (99, 300)], [(300, 0)] * 3, 0), 0, 0)
        self.assert_value(Blend([(1, 0)], [CLOSED] * 3, 0), 0, 0)

    def test_other_streams_go_to_a_flour_only_because_of_it(self):
        # Without the first the second goes to flour 1 for 40, or to feed for 20 where there is no room.
        self.assert_value(TWO, 0, 140)
        self.assert_value(Blend([(10, 40), (10, 80)], [(60, 9), CLOSED, CLOSED], 2), 0, 160)
        # Without the first all of the second is worth nothing.
        self.assert_value(Blend([(1, 0), (50, 61)], [(60, 9), CLOSED, CLOSED], 0), 0, 459)
        # Another one carries it, too, so what the first earns itself is all.
        self.assert_value(Blend([(1, 0), (50, 61), (1, 10)], [(60, 9), CLOSED, CLOSED], 0), 0, 9)

    def test_first_and_last_and_one_past_it(self):
        for stream in range(6):
            self.assert_value(SIX, stream, SIX.best()[0] - SIX.without(stream).best()[0])
        for stream in (6, 7, GREATEST):
            self.assert_refused_without_change(BLENDED, ("value_of_stream", stream), -2)
        for stream in (2, GREATEST):
            self.assert_refused_without_change(TWO.calls(), ("value_of_stream", stream), -2)
        for stream in (0, 1, GREATEST):
            self.assert_refused_without_change(NO_STREAM.calls(), ("value_of_stream", stream), -2)

    def test_current_assignment_neither_counts_nor_changes(self):
        # Without the first stream the current assignment wouldn't be feasible.
        start = TWO.calls() + [("set_assignment", [0, 0])]
        self.assert_answered_without_change(start, ("value_of_stream", 0), [0, 140])
        self.assert_last(start + [("value_of_stream", 0), ("get_assignment",)], [2, 0, 0])
        self.assert_last(start + [("value_of_stream", 0), ("get_stream", 0)], [10, 40, 0])

    def test_greatest(self):
        self.assert_value(Blend([(99, 0)], [(0, 99), CLOSED, CLOSED], 0), 0, 9801)
        # One clean stream carries all the others.
        others = [(99, 11)] * 5
        self.assert_value(Blend([(99, 0)] + others, [(10, 99), CLOSED, CLOSED], 0), 0, 99 * 594)

    def test_small_blenders(self):
        for blend in small_blends(150):
            for stream in range(len(blend.streams)):
                expected = blend.best()[0] - blend.without(stream).best()[0]
                self.assert_last(blend.calls() + [("value_of_stream", stream)], [0, expected])

    def test_is_the_loss_by_removal(self):
        for blend in small_blends(60, 5):
            for stream in range(len(blend.streams)):
                ends = [("best_assignment",), ("value_of_stream", stream), ("remove_stream", stream)]
                found = ask(*blend.calls(), *ends, ("best_assignment",))
                self.assertEqual(found[-3], [0, found[-4][0] - found[-1][0]], blend.calls())


if __name__ == "__main__":
    unittest.main()
