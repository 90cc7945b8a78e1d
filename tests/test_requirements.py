"""What holds after whatever calls and for whatever blenders: the document's requirements, 1 to 6."""

import itertools
import unittest
from fractions import Fraction

from tests.asking import AskingCase, ask
from tests.reckoning import Blend, Numbers, small_blends

REQUESTS = 200
CALLS = 30


def mixed_call(numbers, stream_count):
    """Some call that changes a blender, for the most part within its limits."""
    arguments = {
        "add_stream": lambda: [numbers.below(20), numbers.below(120)],
        "remove_stream": lambda: [numbers.below(6)],
        "set_stream": lambda: [numbers.below(6), numbers.below(20), numbers.below(120)],
        "set_flour": lambda: [numbers.below(4), numbers.below(150), numbers.below(101)],
        "set_assignment": lambda: [[numbers.below(4) for _ in range(stream_count)]],
        "move_stream": lambda: [numbers.below(6), numbers.below(5)],
        "apply_best_assignment": lambda: [],
    }
    name = numbers.one_of(*arguments)
    return (name, *arguments[name]())


class AlwaysFeasibleTest(AskingCase):
    """A plain account of the state is kept beside the answers and compared with them."""

    def shown(self, calls):
        """The streams and their destinations after the calls, and the last call's answer."""
        count = ask(*calls, ("get_assignment",))[-1][0]
        found = ask(*calls, ("get_assignment",), *[("get_stream", stream) for stream in range(count)])
        rows = found[len(calls) + 1:]
        self.assertEqual(found[len(calls)], [count] + [row[2] for row in rows], calls)
        return [tuple(row[:2]) for row in rows], [row[2] for row in rows], found[len(calls) - 1]

    def test_after_any_calls(self):
        refused = set()
        for seed in range(REQUESTS):
            numbers = Numbers(seed)
            flours = [(0, 0)] * 3
            calls = [("create", 2)]
            before = ([], [])
            for _ in range(CALLS):
                call = mixed_call(numbers, len(before[0]))
                calls.append(call)
                streams, destinations, answer = self.shown(calls)
                if answer[0] < 0:
                    refused.add(answer[0])
                    self.assertEqual((streams, destinations), before, calls)
                elif call[0] == "set_flour":
                    flours[call[1]] = call[2:]
                blend = Blend(streams, flours, 2)
                self.assertTrue(blend.is_feasible(destinations), calls)
                self.assertEqual(ask(*calls, ("revenue",))[-1], [blend.revenue(destinations)], calls)
                before = (streams, destinations)
        self.assertEqual(refused, {-2, -22, -28, -30})


class EveryAssignmentTest(AskingCase):
    """The best of all assignments, of which it is asked one by one which are feasible."""

    def test_exactly_the_feasible_ones_are_taken(self):
        blend = Blend([(10, 40), (20, 80), (7, 61), (3, 0)], [(60, 9), (70, 5), (0, 50)], 2)
        for destinations in itertools.product(range(4), repeat=4):
            expected = blend.revenue(destinations) if blend.is_feasible(destinations) else -30
            self.assert_last(blend.calls() + [("set_assignment", list(destinations))], [expected])

    def taken(self, blend):
        """Each assignment that evaluate_assignment takes, behind its revenue."""
        every = [list(each) for each in itertools.product(range(4), repeat=len(blend.streams))]
        revenues = []
        for start in range(0, len(every), 50):
            asked = [("evaluate_assignment", each) for each in every[start:start + 50]]
            revenues += ask(*blend.calls(), *asked)[len(blend.calls()):]
        return [(revenue, each) for (revenue,), each in zip(revenues, every) if revenue >= 0]

    def test_no_feasible_one_is_better_than_the_best(self):
        for blend in small_blends(60, 3):
            revenue, *best = ask(*blend.calls(), ("best_assignment",))[-1]
            taken = self.taken(blend)
            self.assertIn((revenue, best), taken, blend.calls())
            self.assertEqual(revenue, max(other for other, _ in taken), blend.calls())
            self.assertEqual(best, min(each for other, each in taken if other == revenue), blend.calls())

    def test_no_feasible_one_has_more_of_the_first_flour(self):
        for blend in small_blends(60, 3):
            amount, *most = ask(*blend.calls(), ("max_first_flour",))[-1]
            taken = [(blend.amount(each, 0), each) for _, each in self.taken(blend)]
            self.assertIn((amount, most), taken, blend.calls())
            self.assertEqual(amount, max(other for other, _ in taken), blend.calls())
            self.assertEqual(most, min(each for other, each in taken if other == amount), blend.calls())

    def test_the_feasible_ones_are_as_many_as_counted(self):
        for blend in small_blends(60, 3):
            self.assert_last(blend.calls() + [("feasible_count",)], [len(self.taken(blend))])


class SplittingTest(AskingCase):

    def test_never_yields_less_than_whole_streams(self):
        more = 0
        for blend in small_blends(400, 6):
            whole, parts = ask(*blend.calls(), ("max_first_flour",), ("max_first_flour_split",))[-2:]
            amount = Fraction(parts[1], parts[2])
            self.assertGreaterEqual(amount, whole[0], blend.calls())
            self.assertEqual(parts, [0, amount.numerator, amount.denominator], blend.calls())
            more += amount > whole[0]
        # Else the blenders would tell nothing.
        self.assertGreater(more, 50)


class NeverLowerTest(AskingCase):
    """Points 4 and 5, asked of each blender from the lowest value to the highest."""

    def assert_rising(self, revenues, calls):
        self.assertEqual(revenues, sorted(revenues), calls)
        self.assertGreaterEqual(revenues[0], 0, calls)
        return revenues[0] < revenues[-1]

    def test_by_a_higher_limit(self):
        limits = list(range(0, 120, 5)) + list(range(120, 301, 20))
        rising = 0
        for blend in small_blends(60):
            for flour in range(3):
                asked = [("best_revenue_for_limit", flour, limit) for limit in limits]
                revenues = [revenue for revenue, in ask(*blend.calls(), *asked)[-len(asked):]]
                rising += self.assert_rising(revenues, blend.calls())
        self.assertGreater(rising, 30)

    def test_by_a_higher_price(self):
        prices = [0, 1, 2, 3, 4, 8, 9, 10, 20, 50, 98, 99]
        rising = 0
        for blend in small_blends(60):
            for flour in range(3):
                asked = [("best_revenue_for_price", flour, price) for price in prices]
                revenues = [revenue for revenue, in ask(*blend.calls(), *asked)[-len(asked):]]
                rising += self.assert_rising(revenues, blend.calls())
        self.assertGreater(rising, 30)

    def test_by_a_higher_price_of_feed(self):
        for blend in small_blends(60):
            revenues = []
            for price in (0, 1, 2, 8, 9, 50, 99):
                calls = blend.calls() + [("set_feed_price", price), ("best_assignment",)]
                self.assert_last(calls, blend.with_feed_price(price).best())
                revenues.append(ask(*calls)[-1][0])
            self.assert_rising(revenues, blend.calls())

    def test_by_another_stream(self):
        for blend in small_blends(100):
            for amount, ash in ((1, 0), (99, 0), (10, 60), (99, 61), (1, 300), (99, 300)):
                more = [("add_stream", amount, ash), ("best_assignment",)]
                found = ask(*blend.calls(), ("best_assignment",), *more)
                self.assertGreaterEqual(found[-1][0], found[-3][0], blend.calls())
                self.assertEqual(found[-1], blend.with_stream(amount, ash).best(), blend.calls())

    def test_by_any_stream_that_is_there(self):
        for blend in small_blends(100, 5):
            asked = [("value_of_stream", stream) for stream in range(len(blend.streams))]
            for zero, value in ask(*blend.calls(), *asked)[len(blend.calls()):]:
                self.assertEqual(zero, 0)
                self.assertGreaterEqual(value, 0, blend.calls())


class AllToFeedTest(AskingCase):

    def test_is_always_feasible(self):
        for count in range(7):
            for ash in (0, 1, 150, 300):
                calls = [("create", 3)] + [("add_stream", 99, ash)] * count
                self.assert_last(calls + [("set_assignment", [3] * count)], [3 * 99 * count])

    def test_it_is_counted_and_evaluated(self):
        for blend in small_blends(60):
            all_to_feed = [3] * len(blend.streams)
            found = ask(*blend.calls(), ("feasible_count",), ("evaluate_assignment", all_to_feed))
            self.assertGreaterEqual(found[-2][0], 1, blend.calls())
            self.assertEqual(found[-1], [blend.revenue(all_to_feed)], blend.calls())

    def test_also_from_another_assignment(self):
        calls = [("create", 3), ("set_flour", 0, 300, 9)] + [("add_stream", 99, 300)] * 6
        calls += [("set_assignment", [0] * 6), ("set_assignment", [3] * 6)]
        self.assert_last(calls, [1782])


if __name__ == "__main__":
    unittest.main()
