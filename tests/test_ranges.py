"""The range of each argument of each call: -2, and when."""

import unittest

from tests.helper import (
    GREATEST, LEAST, RefusalTest, accept, air, ask, ask_last, begin, channels, deliver, double, flow, give_up, hears,
    join, leave, lose, play, power, retry, sleep, tell_bag, tell_beacon, tell_got, tell_legs, tell_station, wake,
)

POINTS = 3
# A world with three points, the last off, and two messages on the wire.
GROUND = [begin(POINTS, 10, 10, 10), join(0, 0), join(0, 1), join(0, 0), power(2, 0)]
MESSAGES = 2

# Each call in range on that ground, and the least and the greatest of each of its arguments.
CALLS = [
    (begin(3, 10, 10, 10), [(1, 8), (1, 1000), (1, 64), (1, 4096)]),
    (power(0, 0), [(0, POINTS - 1), (0, 1)]),
    (join(0, 0), [(0, 63), (0, POINTS - 1)]),
    (leave(0), [(0, 63)]),
    (sleep(0), [(0, 63)]),
    (wake(0), [(0, 63)]),
    (accept(0, 0, 0), [(0, POINTS - 1), (0, 63), (0, 4294967295)]),
    (air(0, 0, 0, 0), [(0, POINTS - 1), (0, 63), (0, 1), (0, 1)]),
    (retry(0, 0), [(0, POINTS - 1), (0, 63)]),
    (give_up(0, 0), [(0, POINTS - 1), (0, 63)]),
    (deliver(0), [(0, MESSAGES - 1)]),
    (lose(0), [(0, MESSAGES - 1)]),
    (double(0), [(0, MESSAGES - 1)]),
    (flow(0), [(0, 10000)]),
    (tell_station(0), [(0, 63)]),
    (tell_got(0), [(0, 63)]),
    (tell_legs(0, 0), [(0, POINTS - 1), (0, 63)]),
    (tell_beacon(0), [(0, POINTS - 1)]),
    (tell_bag(), []),
    (hears(0, 1, 0), [(0, POINTS - 1), (0, POINTS - 1), (0, 1000000)]),
    (channels(1), [(1, 4)]),
]
HEARS = 19


def with_argument(call, k, number):
    changed = list(call)
    changed[k + 1] = number
    if changed[0] == HEARS and changed[1] == changed[2]:
        # The other of the two points makes way, since a point with itself is refused.
        changed[2 - k] = 1
    return tuple(changed)


class EachRange(RefusalTest):
    def test_the_ground_is_as_told(self):
        self.assertEqual(ask(*GROUND), [[0], [1], [2], [3], [0]])
        self.assertEqual(len(play(*GROUND).messages), MESSAGES)

    def test_every_call_has_its_row(self):
        self.assertEqual([row[0][0] for row in CALLS], list(range(21)))
        for call, ranges in CALLS:
            self.assertEqual(len(call) - 1, len(ranges), call)

    def test_the_least_and_the_greatest_are_taken(self):
        for call, ranges in CALLS:
            for k, (least, greatest) in enumerate(ranges):
                for number in (least, greatest):
                    given = ask_last(*GROUND, with_argument(call, k, number))
                    self.assertNotEqual(given, [-2], (call, k, number))

    def test_what_lies_outside_is_refused_and_changes_nothing(self):
        for call, ranges in CALLS:
            for k, (least, greatest) in enumerate(ranges):
                for number in (LEAST, least - 1, greatest + 1, GREATEST):
                    self.refused(GROUND, with_argument(call, k, number), -2)

    def test_all_arguments_wrong_at_once(self):
        for call, ranges in CALLS:
            for number in (LEAST, GREATEST):
                if ranges:
                    self.assertEqual(ask_last(*GROUND, (call[0],) + (number,) * len(ranges)), [-2])

    def test_points_are_as_many_as_told_at_begin(self):
        for points in range(1, 9):
            line = [begin(points), join(0, points - 1), join(0, points), power(points, 0), accept(points, 0, 0)]
            line += [air(points, 0), retry(points, 0), give_up(points, 0), tell_legs(points, 0), tell_beacon(points)]
            line += [hears(points, 0, 1), hears(0, points, 1), retry(points - 1, 0), tell_beacon(points - 1)]
            self.assertEqual(ask(*line), [[0], [1]] + [[-2]] * 10 + [[0], [0]])

    def test_begin_anew_sets_how_many_points_there_are(self):
        self.assertEqual(
            ask(begin(2), join(0, 1), begin(1), join(0, 1), begin(3), join(0, 2)),
            [[0], [1], [0], [-2], [0], [1]])


class TheMessages(RefusalTest):
    def test_no_k_is_in_range_if_there_are_none(self):
        for k in (LEAST, -1, 0, 1, GREATEST):
            for make in (deliver, lose, double):
                self.refused([begin()], make(k), -2)
                self.refused([begin(), join(0, 0), join(0, 1), lose(0)], make(k), -2)

    def test_no_k_is_in_range_when_the_last_is_out(self):
        line = [begin(), join(0, 0), join(0, 1), deliver(0), deliver(0), deliver(0), deliver(0), deliver(-1)]
        self.assertEqual(ask(*line), [[0], [1], [2], [1], [1], [0], [-2], [-2]])

    def test_k_counts_the_messages_that_there_are(self):
        line = [begin(), join(0, 0), join(0, 1), join(0, 2), deliver(2), deliver(1), deliver(1)]
        self.assertEqual(ask(*line), [[0], [1], [2], [3], [-2], [1], [-2]])
        line = [begin(), join(0, 0), join(0, 1), join(0, 2), lose(2), lose(1), lose(1), double(1), double(0), double(1)]
        self.assertEqual(ask(*line)[4:], [[-2], [0], [-2], [-2], [0], [0]])


class APointWithItself(RefusalTest):
    def test_it_is_refused(self):
        for points in range(1, 9):
            for p in range(points):
                self.refused([begin(points)], hears(p, p, 5), -2)

    def test_whatever_the_weight(self):
        ground = [begin(3), hears(0, 1, 7)]
        for weight in (LEAST, -1, 0, 1, 1000000, 1000001, GREATEST):
            self.refused(ground, hears(1, 1, weight), -2)

    def test_whatever_the_points(self):
        for p in (LEAST, -1, 3, GREATEST):
            self.refused([begin(3), hears(0, 1, 7)], hears(p, p, 5), -2)

    def test_not_begun_is_told_first(self):
        self.assertEqual(ask(hears(0, 0, 5)), [[-1]])


class AheadOfTheCallsOwn(unittest.TestCase):
    def test_a_wrong_argument_is_told_first(self):
        off = [begin(2), power(0, 0)]
        for call in (
            power(0, 2), power(0, -1), join(64, 0), accept(0, 64, 0), accept(0, 0, -1), accept(0, 0, 4294967296),
            air(0, 64), air(0, 0, 2, 0), air(0, 0, 0, 2), air(0, 0, -1, 0), air(0, 0, 0, -1), retry(0, 64),
            give_up(0, 64), leave(64), sleep(64), wake(64), tell_legs(0, 64),
        ):
            self.assertEqual(ask_last(*off, call), [-2], call)

    def test_no_such_message_is_told_ahead_of_a_full_bag(self):
        full = [begin(2, 5, 5, 1), join(0, 0), join(0, 1)]
        self.assertEqual(ask(*full, double(0), double(1), double(-1))[3:], [[-10], [-2], [-2]])


if __name__ == "__main__":
    unittest.main()
