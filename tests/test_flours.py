"""set_flour, set_feed_price and flour_quality."""

import unittest

from tests.asking import AskingCase, GREATEST

# Flour 1 holds 30 with a mean ash of 200 / 3.
BLENDED = [
    ("create", 2),
    ("add_stream", 10, 40),
    ("add_stream", 20, 80),
    ("set_flour", 1, 70, 9),
    ("set_assignment", [1, 1]),
]


class SetFlourTest(AskingCase):

    def test_each_flour_answers_its_previous_values(self):
        self.assert_answers(
            (("create", 2), [0]),
            (("set_flour", 0, 60, 9), [0, 0, 0]),
            (("set_flour", 1, 61, 10), [0, 0, 0]),
            (("set_flour", 2, 62, 11), [0, 0, 0]),
            (("set_flour", 0, 1, 2), [0, 60, 9]),
            (("set_flour", 1, 3, 4), [0, 61, 10]),
            (("set_flour", 2, 5, 6), [0, 62, 11]),
            (("set_flour", 0, 0, 0), [0, 1, 2]),
        )

    def test_edges_of_the_values(self):
        for ash_limit, price in ((0, 0), (0, 99), (300, 0), (300, 99), (99, 98), (100, 1), (299, 50)):
            self.assert_last([
                ("create", 2),
                ("set_flour", 2, ash_limit, price),
                ("set_flour", 2, 1, 1),
            ], [0, ash_limit, price])

    def test_values_outside_their_limits(self):
        wrong = ((301, 9), (GREATEST, 9), (70, 100), (70, GREATEST), (301, 100))
        for ash_limit, price in wrong:
            self.assert_refused_without_change(BLENDED, ("set_flour", 1, ash_limit, price), -22)

    def test_one_past_the_last_flour(self):
        for flour in (3, 4, GREATEST):
            self.assert_refused_without_change(BLENDED, ("set_flour", flour, 70, 9), -2)

    def test_limit_just_at_and_just_below_the_mean_ash(self):
        start = BLENDED + [("set_stream", 1, 20, 85)]
        self.assert_last(start + [("flour_quality", 1)], [0, 30, 70, 1])
        self.assert_last(start + [("set_flour", 1, 70, 1)], [0, 70, 9])
        self.assert_refused_without_change(start, ("set_flour", 1, 69, 1), -30)

    def test_limit_around_a_mean_ash_that_is_not_whole(self):
        self.assert_last(BLENDED + [("set_flour", 1, 67, 9)], [0, 70, 9])
        self.assert_refused_without_change(BLENDED, ("set_flour", 1, 66, 9), -30)

    def test_other_flours_are_free(self):
        self.assert_last(BLENDED + [("set_flour", 0, 0, 5)], [0, 0, 0])
        self.assert_last(BLENDED + [("set_flour", 2, 0, 5)], [0, 0, 0])

    def test_limit_of_zero(self):
        start = [("create", 2), ("add_stream", 5, 0), ("add_stream", 5, 1), ("set_flour", 0, 1, 1)]
        self.assert_last(start + [("move_stream", 0, 0), ("set_flour", 0, 0, 1)], [0, 1, 1])
        self.assert_last(start + [("move_stream", 1, 0), ("set_flour", 0, 0, 1)], [-30])

    def test_order_of_the_errors(self):
        self.assert_refused_without_change(BLENDED, ("set_flour", 3, 301, 100), -2)
        self.assert_refused_without_change(BLENDED, ("set_flour", GREATEST, GREATEST, GREATEST), -2)
        # This limit would be below the flour's mean ash, too.
        self.assert_refused_without_change(BLENDED, ("set_flour", 1, 0, 100), -22)

    def test_price_counts_in_the_revenue(self):
        self.assert_last(BLENDED + [("set_flour", 1, 70, 4), ("set_assignment", [1, 1])], [120])
        self.assert_last(BLENDED + [("set_flour", 0, 70, 4), ("set_assignment", [1, 1])], [270])


class SetFeedPriceTest(AskingCase):

    def test_answers_the_previous_price(self):
        self.assert_answers(
            (("create", 2), [0]),
            (("set_feed_price", 0), [2]),
            (("set_feed_price", 1), [0]),
            (("set_feed_price", 98), [1]),
            (("set_feed_price", 99), [98]),
            (("set_feed_price", 5), [99]),
        )

    def test_price_above_its_limit(self):
        for price in (100, 101, GREATEST):
            self.assert_refused_without_change(BLENDED, ("set_feed_price", price), -22)

    def test_price_counts_in_the_revenue(self):
        self.assert_last(BLENDED + [("set_feed_price", 5), ("set_assignment", [3, 3])], [150])

    def test_flours_keep_their_prices(self):
        self.assert_last(BLENDED + [("set_feed_price", 5), ("set_assignment", [1, 1])], [270])


class FlourQualityTest(AskingCase):

    def test_mean_ash_that_is_not_whole(self):
        self.assert_last(BLENDED + [("flour_quality", 1)], [0, 30, 200, 3])

    def test_mean_ash_that_is_whole(self):
        self.assert_last(BLENDED + [("move_stream", 1, 3), ("flour_quality", 1)], [0, 10, 40, 1])

    def test_mean_ash_of_zero(self):
        for amounts in ((1,), (99,), (10, 20)):
            calls = [("create", 2)] + [("add_stream", amount, 0) for amount in amounts]
            calls += [("set_assignment", [2] * len(amounts)), ("flour_quality", 2)]
            self.assert_last(calls, [0, sum(amounts), 0, 1])

    def test_lowest_terms(self):
        rows = (
            ((2, 1), (2, 2), [0, 4, 3, 2]),
            ((6, 1), (3, 0), [0, 9, 2, 3]),
            ((1, 1), (99, 0), [0, 100, 1, 100]),
            ((7, 300), (5, 299), [0, 12, 3595, 12]),
            ((99, 300), (99, 300), [0, 198, 300, 1]),
            ((99, 300), (1, 0), [0, 100, 297, 1]),
        )
        for first, second, expected in rows:
            self.assert_last([
                ("create", 2),
                ("add_stream", *first),
                ("add_stream", *second),
                ("set_flour", 0, 300, 9),
                ("set_assignment", [0, 0]),
                ("flour_quality", 0),
            ], expected)

    def test_each_flour_for_itself(self):
        self.assert_answers(
            (("create", 2), [0]),
            (("add_stream", 10, 40), [0]),
            (("add_stream", 20, 80), [1]),
            (("add_stream", 30, 120), [2]),
            (("add_stream", 40, 200), [3]),
            (("set_flour", 0, 40, 1), [0, 0, 0]),
            (("set_flour", 1, 80, 1), [0, 0, 0]),
            (("set_flour", 2, 120, 1), [0, 0, 0]),
            (("set_assignment", [0, 1, 2, 3]), [140]),
            (("flour_quality", 0), [0, 10, 40, 1]),
            (("flour_quality", 1), [0, 20, 80, 1]),
            (("flour_quality", 2), [0, 30, 120, 1]),
        )

    def test_six_streams_at_most(self):
        calls = [("create", 2), ("set_flour", 2, 300, 99)] + [("add_stream", 99, 300)] * 6
        calls += [("set_assignment", [2] * 6), ("flour_quality", 2)]
        self.assert_last(calls, [0, 594, 300, 1])

    def test_no_stream_goes_to_the_flour(self):
        for flour in (0, 2):
            self.assert_refused_without_change(BLENDED, ("flour_quality", flour), -33)
        self.assert_last(BLENDED + [("set_assignment", [3, 3]), ("flour_quality", 1)], [-33])

    def test_one_past_the_last_flour(self):
        for flour in (3, 4, GREATEST):
            self.assert_refused_without_change(BLENDED, ("flour_quality", flour), -2)
            self.assert_last([("create", 2), ("add_stream", 1, 1), ("flour_quality", flour)], [-2])


if __name__ == "__main__":
    unittest.main()
