"""What holds after whatever calls: points 1 and 6 of the document's requirements."""

import itertools
import unittest
from fractions import Fraction

from tests.asking import AskingCase, ask

REQUESTS = 200
CALLS = 30


class Numbers:
    """The same row of mixed numbers each time, so that a failure can be seen again."""

    def __init__(self, seed):
        self.state = seed

    def below(self, bound):
        self.state = (self.state * 1103515245 + 12345) % 2147483648
        return (self.state >> 8) % bound


def mixed_call(numbers, stream_count):
    """Some call that changes a blender, for the most part within its limits."""
    name = ("add_stream", "remove_stream", "set_stream", "set_flour", "set_assignment", "move_stream")[numbers.below(6)]
    arguments = {
        "add_stream": lambda: [numbers.below(20), numbers.below(120)],
        "remove_stream": lambda: [numbers.below(6)],
        "set_stream": lambda: [numbers.below(6), numbers.below(20), numbers.below(120)],
        "set_flour": lambda: [numbers.below(4), numbers.below(150), numbers.below(101)],
        "set_assignment": lambda: [[numbers.below(4) for _ in range(stream_count)]],
        "move_stream": lambda: [numbers.below(6), numbers.below(5)],
    }
    return (name, *arguments[name]())


class AlwaysFeasibleTest(AskingCase):
    """A plain account of the state is kept beside the answers and compared with them."""

    def assert_feasible(self, streams, limits, destinations, calls):
        for flour in range(3):
            blended = [stream for stream, destination in zip(streams, destinations) if destination == flour]
            amount = sum(stream[0] for stream in blended)
            ash = sum(stream[0] * stream[1] for stream in blended)
            self.assertLessEqual(ash, limits[flour] * amount, calls)

    def shown(self, calls):
        """The streams and their destinations after the calls, and the last call's answer."""
        count = ask(*calls, ("get_assignment",))[-1][0]
        found = ask(*calls, ("get_assignment",), *[("get_stream", stream) for stream in range(count)])
        rows = found[len(calls) + 1:]
        self.assertEqual(found[len(calls)], [count] + [row[2] for row in rows], calls)
        return [tuple(row[:2]) for row in rows], [row[2] for row in rows], found[len(calls) - 1]

    def test_after_any_calls(self):
        refused = set()
        for seed in range(REQUESTS):
            numbers = Numbers(seed)
            limits = [0, 0, 0]
            calls = [("create", 2)]
            before = ([], [])
            for _ in range(CALLS):
                call = mixed_call(numbers, len(before[0]))
                calls.append(call)
                streams, destinations, answer = self.shown(calls)
                if answer[0] < 0:
                    refused.add(answer[0])
                    self.assertEqual((streams, destinations), before, calls)
                elif call[0] == "set_flour":
                    limits[call[1]] = call[2]
                self.assert_feasible(streams, limits, destinations, calls)
                before = (streams, destinations)
        self.assertEqual(refused, {-2, -22, -28, -30})


class EveryAssignmentTest(AskingCase):

    def test_exactly_the_feasible_ones_are_taken(self):
        streams = ((10, 40), (20, 80), (7, 61), (3, 0))
        limits = (60, 70, 0)
        prices = (9, 5, 50)
        start = [("create", 2)] + [("add_stream", *stream) for stream in streams]
        start += [("set_flour", flour, limits[flour], prices[flour]) for flour in range(3)]
        for destinations in itertools.product(range(4), repeat=4):
            expected = self.revenue_or_refusal(streams, limits, prices + (2,), destinations)
            self.assert_last(start + [("set_assignment", list(destinations))], [expected])

    def revenue_or_refusal(self, streams, limits, prices, destinations):
        for flour, limit in enumerate(limits):
            blended = [stream for stream, destination in zip(streams, destinations) if destination == flour]
            amount = sum(stream[0] for stream in blended)
            if amount and Fraction(sum(stream[0] * stream[1] for stream in blended), amount) > limit:
                return -30
        return sum(stream[0] * prices[destination] for stream, destination in zip(streams, destinations))


class AllToFeedTest(AskingCase):

    def test_is_always_feasible(self):
        for count in range(7):
            for ash in (0, 1, 150, 300):
                calls = [("create", 3)] + [("add_stream", 99, ash)] * count
                self.assert_last(calls + [("set_assignment", [3] * count)], [3 * 99 * count])

    def test_also_from_another_assignment(self):
        calls = [("create", 3), ("set_flour", 0, 300, 9)] + [("add_stream", 99, 300)] * 6
        calls += [("set_assignment", [0] * 6), ("set_assignment", [3] * 6)]
        self.assert_last(calls, [1782])


if __name__ == "__main__":
    unittest.main()
