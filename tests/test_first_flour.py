"""max_first_flour and max_first_flour_split."""

import itertools
import unittest
from fractions import Fraction

from tests.asking import AskingCase, ask
from tests.reckoning import FREE, NO_STREAM, SIX, TWO, Blend, small_blends

CLOSED = (0, 0)


def first_alone(limit, *streams):
    """A blender of which flour 0 alone takes streams with ash."""
    return Blend(streams, [(limit, 1), CLOSED, CLOSED], 0)


class MaxFirstFlourTest(AskingCase):

    def assert_most(self, blend, expected):
        self.assert_last(blend.calls() + [("max_first_flour",)], expected)

    def test_whole_streams(self):
        self.assert_most(TWO, [20, 0, 0])
        self.assert_most(first_alone(60, (10, 40), (20, 80)), [10, 0, 3])
        self.assert_most(first_alone(60, (10, 40), (9, 81)), [19, 0, 0])
        self.assert_most(first_alone(60, (10, 40), (10, 81)), [10, 0, 3])

    def test_no_stream(self):
        self.assert_most(NO_STREAM, [0])
        self.assert_last([("create", 2), ("max_first_flour",)], [0])

    def test_six_streams(self):
        self.assert_most(SIX, SIX.first_flour())
        self.assert_most(FREE, [594, 0, 0, 0, 0, 0, 0])

    def test_prices_do_not_count(self):
        for prices in ((0, 0, 0, 0), (0, 99, 99, 99), (99, 0, 0, 0), (1, 2, 3, 4)):
            flours = [(limit, price) for (limit, _), price in zip(SIX.flours, prices)]
            self.assert_most(Blend(SIX.streams, flours, prices[3]), SIX.first_flour())

    def test_a_limit_of_zero(self):
        self.assert_most(first_alone(0, (10, 1), (20, 0), (30, 0)), [50, 3, 0, 0])
        self.assert_most(first_alone(0, (10, 1)), [0, 3])

    def test_limit_of_flour_0_counts(self):
        self.assert_most(Blend([(10, 300)], [(299, 1), (300, 1), (300, 1)], 0), [0, 1])
        self.assert_most(Blend([(10, 300)], [(300, 1), (299, 1), (299, 1)], 0), [10, 0])

    def test_smallest_list_of_several(self):
        # What doesn't go to flour 0 goes to the first destination that takes it.
        self.assert_most(Blend([(10, 100)], [(60, 1), (100, 1), (100, 1)], 0), [0, 1])
        self.assert_most(Blend([(10, 100)], [(60, 1), (99, 1), (100, 1)], 0), [0, 2])
        self.assert_most(Blend([(10, 100)], [(60, 1), (99, 1), (99, 1)], 0), [0, 3])
        self.assert_most(first_alone(60, (10, 70), (10, 70), (10, 50)), [20, 0, 3, 0])
        self.assert_most(first_alone(60, (10, 80), (5, 80), (5, 80), (10, 40)), [20, 0, 3, 3, 0])

    def test_small_blenders(self):
        for blend in small_blends(300) + small_blends(12, 6):
            self.assert_most(blend, blend.first_flour())

    def test_current_assignment_neither_counts_nor_changes(self):
        for current in SIX.feasible()[::300]:
            start = SIX.calls() + [("set_assignment", current)]
            self.assert_answered_without_change(start, ("max_first_flour",), SIX.first_flour())


class MaxFirstFlourSplitTest(AskingCase):

    def assert_split(self, blend, expected):
        self.assert_last(blend.calls() + [("max_first_flour_split",)], expected)

    def test_no_stream(self):
        self.assert_split(NO_STREAM, [0, 0, 1])
        self.assert_last([("create", 2), ("max_first_flour_split",)], [0, 0, 1])

    def test_a_stream_taken_in_part(self):
        # 10 * 20 of reserve, of which each unit of the second takes 30.
        self.assert_split(first_alone(60, (10, 40), (20, 90)), [0, 50, 3])
        # 5 * 30 of reserve for a second one that takes 100: one and a half.
        self.assert_split(first_alone(60, (5, 30), (20, 160)), [0, 13, 2])
        self.assert_split(first_alone(60, (1, 59), (99, 300)), [0, 241, 240])

    def test_lowest_terms(self):
        self.assert_split(first_alone(60, (10, 40), (20, 80)), [0, 20, 1])
        self.assert_split(first_alone(60, (6, 50), (20, 100)), [0, 15, 2])
        self.assert_split(first_alone(60, (6, 50), (20, 96)), [0, 23, 3])
        self.assert_split(first_alone(60, (1, 0), (99, 90)), [0, 3, 1])

    def test_just_all_of_a_stream_and_just_not(self):
        self.assert_split(first_alone(60, (10, 40), (10, 80)), [0, 20, 1])
        self.assert_split(first_alone(60, (10, 40), (10, 81)), [0, 410, 21])
        self.assert_split(first_alone(60, (10, 40), (9, 81)), [0, 19, 1])
        self.assert_split(first_alone(60, (10, 40), (9, 81), (1, 100)), [0, 771, 40])

    def test_ash_just_at_the_limit(self):
        self.assert_split(first_alone(60, (10, 60)), [0, 10, 1])
        self.assert_split(first_alone(60, (10, 60), (10, 61)), [0, 10, 1])
        self.assert_split(first_alone(60, (10, 60), (10, 61), (1, 59)), [0, 12, 1])
        self.assert_split(first_alone(60, (10, 61)), [0, 0, 1])
        self.assert_split(first_alone(300, (10, 300), (20, 300)), [0, 30, 1])

    def test_streams_behind_the_one_taken_in_part(self):
        self.assert_split(first_alone(60, (10, 40), (20, 90), (20, 100), (1, 300)), [0, 50, 3])
        self.assert_split(first_alone(60, (10, 40), (10, 80), (5, 90), (1, 300)), [0, 20, 1])

    def test_streams_of_equal_ash(self):
        self.assert_split(first_alone(60, (10, 40), (4, 90), (20, 90)), [0, 50, 3])
        self.assert_split(first_alone(60, (10, 40), (20, 90), (4, 90)), [0, 50, 3])
        self.assert_split(first_alone(60, (3, 90), (3, 90), (10, 40), (3, 90)), [0, 50, 3])
        self.assert_split(first_alone(60, (4, 40), (4, 40), (2, 40), (9, 90)), [0, 50, 3])
        self.assert_split(first_alone(60, (4, 60), (5, 60), (6, 60), (7, 60)), [0, 22, 1])

    def test_a_limit_of_zero(self):
        self.assert_split(first_alone(0, (10, 0), (20, 1), (30, 300)), [0, 10, 1])
        self.assert_split(first_alone(0, (10, 1)), [0, 0, 1])
        self.assert_split(first_alone(0, (10, 0), (20, 0)), [0, 30, 1])

    def test_order_of_the_streams_does_not_matter(self):
        for order in itertools.permutations([(10, 40), (20, 90), (3, 70), (5, 300), (2, 60)]):
            self.assert_split(first_alone(60, *order), [0, 62, 3])

    def test_six_streams(self):
        self.assert_split(SIX, SIX.split())
        self.assert_split(FREE, [0, 594, 1])
        self.assert_split(first_alone(299, *[(99, 300)] * 6), [0, 0, 1])
        self.assert_split(first_alone(10, (99, 0), *[(99, 300)] * 5), [0, 2970, 29])

    def test_limit_of_flour_0_alone_counts(self):
        for others in ((0, 0), (300, 99), (61, 5)):
            blend = Blend([(10, 40), (20, 90)], [(60, 0), others, others], 99)
            self.assert_split(blend, [0, 50, 3])
        self.assert_split(Blend([(10, 40), (20, 90)], [(0, 9), (60, 9), (60, 9)], 0), [0, 0, 1])

    def test_as_the_document_goes_step_by_step(self):
        for blend in small_blends(300, 6):
            self.assert_split(blend, blend.split())

    def test_no_other_parts_make_more(self):
        for blend in small_blends(200, 5):
            zero, numerator, denominator = ask(*blend.calls(), ("max_first_flour_split",))[-1]
            self.assertEqual(zero, 0)
            self.assertEqual(Fraction(numerator, denominator), blend.most_of_parts(), blend.calls())

    def test_current_assignment_neither_counts_nor_changes(self):
        for current in SIX.feasible()[::300]:
            start = SIX.calls() + [("set_assignment", current)]
            self.assert_answered_without_change(start, ("max_first_flour_split",), SIX.split())


if __name__ == "__main__":
    unittest.main()
