"""add_stream, remove_stream, set_stream and get_stream."""

import unittest

from tests.asking import AskingCase, GREATEST

SIX = [("create", 2)] + [("add_stream", 10 + number, 40 + number) for number in range(6)]
# Flour 0 is just at its limit: 10 * 40 + 10 * 80 == 60 * 20.
AT_LIMIT = [
    ("create", 2),
    ("add_stream", 10, 40),
    ("add_stream", 10, 80),
    ("set_flour", 0, 60, 9),
    ("set_assignment", [0, 0]),
]


class AddStreamTest(AskingCase):

    def test_new_stream_goes_to_feed(self):
        self.assert_answers(
            (("create", 2), [0]),
            (("set_flour", 0, 300, 99), [0, 0, 0]),
            (("add_stream", 10, 40), [0]),
            (("get_assignment",), [1, 3]),
            (("move_stream", 0, 0), [3]),
            (("add_stream", 20, 80), [1]),
            (("get_assignment",), [2, 0, 3]),
            (("get_stream", 1), [20, 80, 3]),
        )

    def test_amount_edges(self):
        for amount in (1, 2, 98, 99):
            self.assert_answers(
                (("create", 2), [0]),
                (("add_stream", amount, 40), [0]),
                (("get_stream", 0), [amount, 40, 3]),
            )
        for amount in (0, 100, 101, GREATEST):
            self.assert_refused_without_change(AT_LIMIT, ("add_stream", amount, 40), -22)

    def test_ash_edges(self):
        for ash in (0, 1, 99, 100, 299, 300):
            self.assert_answers(
                (("create", 2), [0]),
                (("add_stream", 10, ash), [0]),
                (("get_stream", 0), [10, ash, 3]),
            )
        for ash in (301, 302, GREATEST):
            self.assert_refused_without_change(AT_LIMIT, ("add_stream", 10, ash), -22)

    def test_six_streams_are_numbered_in_order(self):
        pairs = [(("create", 2), [0])]
        pairs += [(("add_stream", 10, 40), [number]) for number in range(6)]
        pairs += [(("get_assignment",), [6, 3, 3, 3, 3, 3, 3])]
        self.assert_answers(*pairs)

    def test_seventh_stream_is_refused(self):
        self.assert_refused_without_change(SIX, ("add_stream", 1, 0), -28)
        self.assert_refused_without_change(SIX, ("add_stream", 99, 300), -28)

    def test_outside_limits_comes_ahead_of_too_many(self):
        for amount, ash in ((0, 40), (100, 40), (10, 301), (GREATEST, GREATEST)):
            self.assert_refused_without_change(SIX, ("add_stream", amount, ash), -22)

    def test_removal_makes_room_again(self):
        self.assert_last(SIX + [("remove_stream", 5), ("add_stream", 1, 0)], [5])
        self.assert_last(SIX + [("remove_stream", 0), ("add_stream", 1, 0), ("get_stream", 5)], [1, 0, 3])


class RemoveStreamTest(AskingCase):

    def test_later_numbers_decrease(self):
        self.assert_answers(
            (("create", 2), [0]),
            (("set_flour", 0, 300, 9), [0, 0, 0]),
            (("set_flour", 1, 300, 9), [0, 0, 0]),
            (("add_stream", 10, 40), [0]),
            (("add_stream", 20, 50), [1]),
            (("add_stream", 30, 60), [2]),
            (("add_stream", 40, 70), [3]),
            (("set_assignment", [0, 3, 1, 0]), [760]),
            (("remove_stream", 1), [3]),
            (("get_assignment",), [3, 0, 1, 0]),
            (("get_stream", 0), [10, 40, 0]),
            (("get_stream", 1), [30, 60, 1]),
            (("get_stream", 2), [40, 70, 0]),
            (("get_stream", 3), [-2]),
            (("remove_stream", 0), [2]),
            (("get_stream", 0), [30, 60, 1]),
            (("get_stream", 1), [40, 70, 0]),
            (("remove_stream", 1), [1]),
            (("get_stream", 0), [30, 60, 1]),
            (("get_stream", 1), [-2]),
            (("remove_stream", 0), [0]),
            (("get_assignment",), [0]),
            (("remove_stream", 0), [-2]),
        )

    def test_first_and_last_and_one_past_it(self):
        self.assert_last(SIX + [("remove_stream", 0)], [5])
        self.assert_last(SIX + [("remove_stream", 5)], [5])
        self.assert_last(SIX + [("remove_stream", 5), ("get_stream", 4)], [14, 44, 3])
        for stream in (6, 7, GREATEST):
            self.assert_refused_without_change(SIX, ("remove_stream", stream), -2)
        for stream in (2, GREATEST):
            self.assert_refused_without_change(AT_LIMIT, ("remove_stream", stream), -2)

    def test_the_stream_that_holds_a_flour_at_its_limit_stays(self):
        self.assert_refused_without_change(AT_LIMIT, ("remove_stream", 0), -30)
        self.assert_last(AT_LIMIT + [("remove_stream", 1), ("flour_quality", 0)], [0, 10, 40, 1])

    def test_what_is_left_just_at_and_just_above_the_limit(self):
        for last_ash, expected in ((60, [2]), (61, [-30])):
            self.assert_last([
                ("create", 2),
                ("add_stream", 10, 40),
                ("add_stream", 10, 60),
                ("add_stream", 1, last_ash),
                ("set_flour", 2, 60, 9),
                ("set_assignment", [2, 2, 2]),
                ("remove_stream", 0),
            ], expected)

    def test_feed_and_the_last_stream_of_a_flour_may_always_go(self):
        self.assert_last(AT_LIMIT + [("add_stream", 99, 300), ("remove_stream", 2)], [2])
        self.assert_last(AT_LIMIT + [("remove_stream", 1), ("remove_stream", 0), ("flour_quality", 0)], [-33])


class SetStreamTest(AskingCase):

    def test_answers_the_previous_values(self):
        self.assert_answers(
            (("create", 2), [0]),
            (("add_stream", 10, 40), [0]),
            (("add_stream", 20, 80), [1]),
            (("set_stream", 1, 30, 90), [0, 20, 80]),
            (("get_stream", 1), [30, 90, 3]),
            (("set_stream", 1, 31, 91), [0, 30, 90]),
            (("set_stream", 0, 11, 41), [0, 10, 40]),
            (("get_stream", 0), [11, 41, 3]),
            (("get_stream", 1), [31, 91, 3]),
        )

    def test_destination_stays(self):
        self.assert_last(AT_LIMIT + [("set_stream", 1, 5, 70), ("get_stream", 1)], [5, 70, 0])
        self.assert_last(AT_LIMIT + [("set_stream", 1, 5, 70), ("flour_quality", 0)], [0, 15, 50, 1])

    def test_edges_of_the_values(self):
        for amount, ash in ((1, 0), (1, 300), (99, 0), (99, 300)):
            self.assert_last(SIX + [("set_stream", 0, amount, ash), ("get_stream", 0)], [amount, ash, 3])
        for amount, ash in ((0, 40), (100, 40), (GREATEST, 40), (10, 301), (10, GREATEST), (0, 301)):
            self.assert_refused_without_change(SIX, ("set_stream", 0, amount, ash), -22)

    def test_first_and_last_and_one_past_it(self):
        self.assert_last(SIX + [("set_stream", 0, 1, 1)], [0, 10, 40])
        self.assert_last(SIX + [("set_stream", 5, 1, 1)], [0, 15, 45])
        for stream in (6, 7, GREATEST):
            self.assert_refused_without_change(SIX, ("set_stream", stream, 1, 1), -2)

    def test_just_at_and_just_above_the_limit(self):
        start = AT_LIMIT + [("set_stream", 1, 10, 70)]
        self.assert_last(start + [("set_stream", 1, 10, 80)], [0, 10, 70])
        self.assert_refused_without_change(start, ("set_stream", 1, 10, 81), -30)
        self.assert_refused_without_change(AT_LIMIT, ("set_stream", 1, 11, 80), -30)
        self.assert_refused_without_change(AT_LIMIT, ("set_stream", 0, 9, 40), -30)
        self.assert_last(AT_LIMIT + [("set_stream", 0, 11, 40)], [0, 10, 40])

    def test_a_stream_in_feed_may_have_any_ash(self):
        self.assert_last(AT_LIMIT + [("add_stream", 1, 0), ("set_stream", 2, 99, 300)], [0, 1, 0])

    def test_order_of_the_errors(self):
        self.assert_refused_without_change(AT_LIMIT, ("set_stream", 2, 0, 301), -2)
        self.assert_refused_without_change(AT_LIMIT, ("set_stream", GREATEST, GREATEST, GREATEST), -2)
        # This ash would be above the flour's limit, too.
        self.assert_refused_without_change(AT_LIMIT, ("set_stream", 1, 10, 301), -22)
        self.assert_refused_without_change(AT_LIMIT, ("set_stream", 1, 100, 300), -22)


class GetStreamTest(AskingCase):

    def test_shows_amount_ash_and_destination(self):
        self.assert_answers(
            (("create", 2), [0]),
            (("add_stream", 10, 40), [0]),
            (("add_stream", 20, 80), [1]),
            (("set_flour", 2, 80, 9), [0, 0, 0]),
            (("set_assignment", [3, 2]), [200]),
            (("get_stream", 0), [10, 40, 3]),
            (("get_stream", 1), [20, 80, 2]),
        )

    def test_first_and_last_and_one_past_it(self):
        self.assert_last(SIX + [("get_stream", 0)], [10, 40, 3])
        self.assert_last(SIX + [("get_stream", 5)], [15, 45, 3])
        for stream in (6, 7, GREATEST):
            self.assert_refused_without_change(SIX, ("get_stream", stream), -2)
        self.assert_last([("create", 2), ("get_stream", 0)], [-2])


if __name__ == "__main__":
    unittest.main()
