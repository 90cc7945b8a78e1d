"""Asks calls by their names and takes the answered list apart again."""

import unittest

from flourashes.blending import answers

NUMBERS = {
    "create": 0,
    "add_stream": 1,
    "remove_stream": 2,
    "set_stream": 3,
    "set_flour": 4,
    "set_feed_price": 5,
    "get_stream": 6,
    "set_assignment": 7,
    "get_assignment": 8,
    "move_stream": 9,
    "flour_quality": 10,
    "ash_margin": 11,
    "revenue": 12,
    "best_assignment": 13,
    "apply_best_assignment": 14,
    "feasible_count": 15,
    "evaluate_assignment": 16,
    "max_first_flour": 17,
    "max_first_flour_split": 18,
    "best_revenue_for_limit": 19,
    "value_of_stream": 20,
    "best_revenue_for_price": 21,
}
GREATEST = 4294967295


def written(calls):
    """The calls, each a tuple of a name and its arguments, as one list of whole numbers."""
    row = []
    for name, *arguments in calls:
        row.append(NUMBERS[name])
        for argument in arguments:
            if isinstance(argument, list):
                row.append(len(argument))
                row.extend(argument)
            else:
                row.append(argument)
    return row


def taken_apart(answered):
    """The answers, a list for each call."""
    parts = []
    at = 0
    while at < len(answered):
        end = at + 1 + answered[at]
        if answered[at] < 1 or end > len(answered):
            raise AssertionError(f"{answered[at]} numbers are told, {len(answered) - at - 1} are left")
        parts.append(answered[at + 1:end])
        at = end
    return parts


def ask(*calls):
    """A list for each call: what it was answered."""
    parts = taken_apart(answers(written(calls)))
    if len(parts) != len(calls):
        raise AssertionError(f"{len(calls)} calls have {len(parts)} answers")
    return parts


# They show all that a blender holds; the last four do so by changing it.
SHOWING = [
    ("get_assignment",),
    *[("get_stream", stream) for stream in range(7)],
    *[("flour_quality", flour) for flour in range(3)],
    *[("ash_margin", flour) for flour in range(3)],
    ("revenue",),
    *[("set_flour", flour, 300, 0) for flour in range(3)],
    ("set_feed_price", 0),
]


class AskingCase(unittest.TestCase):
    """A test that compares calls with their answers."""

    def assert_answers(self, *pairs):
        """Each pair is a call and the list that answers it; all stand in one request."""
        calls = [call for call, _ in pairs]
        for (call, expected), found in zip(pairs, ask(*calls)):
            self.assertEqual(found, expected, call)

    def assert_last(self, calls, expected):
        """The last one of the calls is answered by this list, those ahead of it aren't refused."""
        found = ask(*calls)
        for call, answer in zip(calls[:-1], found):
            self.assertGreaterEqual(answer[0], 0, call)
        self.assertEqual(found[-1], expected, calls[-1])

    def assert_refused_without_change(self, calls, refused, code):
        """After the calls, one more is refused, and all that the blender holds is as without it."""
        self.assert_answered_without_change(calls, refused, [code])

    def assert_answered_without_change(self, calls, asked, expected):
        """After the calls, one more is answered by this list, and all that the blender holds is as without it."""
        self.assert_last(calls + [asked], expected)
        shown = ask(*calls, asked, *SHOWING)[len(calls) + 1:]
        self.assertEqual(shown, ask(*calls, *SHOWING)[len(calls):], asked)
