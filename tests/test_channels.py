"""hears and channels, and that no way of giving channels costs less than the best way told."""

import itertools
import random
import unittest

from tests.helper import (
    RefusalTest, accept, after, ask, ask_last, begin, channels, flow, hears, join, play, power, snapshot,
)


def cost(pairs, way):
    return sum(weight for (p, q), weight in pairs.items() if way[p] == way[q])


def best_of_all(points, pairs, c):
    """A plain look at every way: the least cost, and of the ways with that cost the least."""
    return list(min((cost(pairs, way),) + way for way in itertools.product(range(c), repeat=points)))


def every_pair(points):
    return list(itertools.combinations(range(points), 2))


def line(points, pairs):
    return [begin(points)] + [hears(p, q, weight) for (p, q), weight in pairs.items()]


class Hears(RefusalTest):
    def costs(self, calls, number):
        """With one channel for all, the cost is the weights of all pairs."""
        self.assertEqual(ask_last(*calls, channels(1))[0], number)

    def test_one_pair(self):
        self.assertEqual(ask(begin(2), hears(0, 1, 5), channels(1), channels(2)), [[0], [0], [5, 0, 0], [0, 0, 1]])

    def test_the_least_and_the_greatest_weight(self):
        for weight in (0, 1, 999999, 1000000):
            self.assertEqual(ask(begin(2), hears(0, 1, weight), channels(1))[1:], [[0], [weight, 0, 0]])

    def test_told_twice_the_later_weight_counts(self):
        for first in (hears(0, 2, 5), hears(2, 0, 5)):
            for second in (hears(0, 2, 7), hears(2, 0, 7)):
                self.assertEqual(ask(begin(3), first, second, channels(1)), [[0], [0], [0], [7, 0, 0, 0]])
                self.costs([begin(3), second, first], 5)
                self.costs([begin(3), first, hears(0, 1, 100), second], 107)

    def test_told_in_either_order_it_is_the_same(self):
        world, other = play(begin(3), hears(0, 2, 5)), play(begin(3), hears(2, 0, 5))
        self.assertEqual(snapshot(world), snapshot(other))
        for c in range(1, 5):
            self.assertEqual(after(world, channels(c)), after(other, channels(c)))

    def test_weight_0_afterwards(self):
        for last in (hears(0, 2, 0), hears(2, 0, 0)):
            calls = [begin(3), hears(0, 2, 5), hears(1, 2, 3), last]
            self.costs(calls, 3)
            self.assertEqual(ask_last(*calls, channels(2)), [0, 0, 0, 1])
            self.costs(calls + [hears(2, 0, 4)], 7)
        self.assertEqual(snapshot(play(begin(3), hears(0, 2, 5), hears(2, 0, 0))), snapshot(play(begin(3))))

    def test_weight_0_of_a_pair_that_was_not_told(self):
        self.assertEqual(ask(begin(2), hears(0, 1, 0), channels(1)), [[0], [0], [0, 0, 0]])

    def test_begin_afterwards(self):
        self.costs([begin(3), hears(0, 2, 5), begin(3)], 0)
        self.costs([begin(3), hears(0, 2, 5), begin(2), begin(3)], 0)
        self.costs([begin(3), hears(0, 2, 5), begin(3), hears(0, 1, 1)], 1)

    def test_a_refused_begin_afterwards(self):
        self.costs([begin(3), hears(0, 2, 5), begin(9)], 5)

    def test_it_changes_nothing_else(self):
        calls = [begin(3), join(0, 0), accept(0, 0, 5), join(0, 1)]
        before, later = snapshot(play(*calls)), snapshot(play(*calls, hears(0, 1, 5)))
        self.assertNotEqual(before.pop("weights"), later.pop("weights"))
        self.assertEqual(before, later)

    def test_points_that_are_off_hear_too(self):
        self.costs([begin(2), power(0, 0), hears(0, 1, 5), power(1, 0)], 5)
        self.costs([begin(2), hears(0, 1, 5), power(0, 0), power(0, 1)], 5)

    def test_a_point_with_itself(self):
        ground = [begin(3), hears(0, 1, 5)]
        for p in range(3):
            self.refused(ground, hears(p, p, 7), -2)
            self.refused(ground, hears(p, p, 0), -2)

    def test_out_of_range(self):
        ground = [begin(3), hears(0, 1, 5)]
        for wrong in (hears(-1, 1, 5), hears(3, 1, 5), hears(1, -1, 5), hears(1, 3, 5), hears(0, 1, -1),
                      hears(0, 1, 1000001), hears(-1, 0, 5), hears(0, -3, 5)):
            self.refused(ground, wrong, -2)

    def test_with_one_point_every_pair_is_refused(self):
        self.refused([begin(1)], hears(0, 0, 5), -2)
        self.refused([begin(1)], hears(0, 1, 5), -2)

    def test_not_begun(self):
        self.assertEqual(ask(hears(0, 1, 5), hears(0, 0, 5), hears(0, 9, -1)), [[-1]] * 3)


class Channels(RefusalTest):
    def test_no_pair(self):
        for points in range(1, 9):
            for c in range(1, 5):
                self.assertEqual(ask_last(begin(points), channels(c)), [0] + [0] * points)

    def test_every_pair_with_the_same_weight(self):
        for points in range(1, 8):
            pairs = {pair: 3 for pair in every_pair(points)}
            for c in range(1, 5):
                self.assertEqual(ask_last(*line(points, pairs), channels(c)), best_of_all(points, pairs, c))

    def test_every_pair_of_8_points(self):
        calls = line(8, {pair: 3 for pair in every_pair(8)})
        self.assertEqual(ask(*calls, channels(1), channels(2), channels(3), channels(4))[-4:], [
            [84, 0, 0, 0, 0, 0, 0, 0, 0], [36, 0, 0, 0, 0, 1, 1, 1, 1],
            [21, 0, 0, 0, 1, 1, 1, 2, 2], [12, 0, 0, 1, 1, 2, 2, 3, 3]])

    def test_the_greatest_cost(self):
        calls = line(8, {pair: 1000000 for pair in every_pair(8)})
        self.assertEqual(ask_last(*calls, channels(1)), [28000000] + [0] * 8)

    def test_more_channels_than_points(self):
        self.assertEqual(ask_last(*line(2, {(0, 1): 5}), channels(4)), [0, 0, 1])
        self.assertEqual(ask_last(*line(3, {pair: 5 for pair in every_pair(3)}), channels(4)), [0, 0, 1, 2])

    def test_of_several_ways_the_least(self):
        # A ring of four points, a ring of five, a star, two that hear one another at the end.
        for points, pairs, c, told in (
            (4, {(0, 1): 1, (1, 2): 1, (2, 3): 1, (0, 3): 1}, 2, [0, 0, 1, 0, 1]),
            (4, {(0, 1): 1, (1, 2): 1, (2, 3): 1, (0, 3): 1}, 3, [0, 0, 1, 0, 1]),
            (5, {(0, 1): 1, (1, 2): 1, (2, 3): 1, (3, 4): 1, (0, 4): 1}, 2, [1, 0, 0, 1, 0, 1]),
            (5, {(0, 1): 1, (1, 2): 1, (2, 3): 1, (3, 4): 1, (0, 4): 1}, 3, [0, 0, 1, 0, 1, 2]),
            (4, {(0, 3): 9, (1, 3): 9, (2, 3): 9}, 4, [0, 0, 0, 0, 1]),
            (8, {(6, 7): 1}, 4, [0, 0, 0, 0, 0, 0, 0, 0, 1]),
            (3, {(0, 1): 2, (1, 2): 2, (0, 2): 2}, 2, [2, 0, 0, 1]),
            (3, {(0, 1): 2, (1, 2): 1, (0, 2): 1}, 2, [1, 0, 1, 0]),
        ):
            self.assertEqual(ask_last(*line(points, pairs), channels(c)), told, (points, pairs, c))

    def test_a_small_cost_early_spares_a_great_one_later(self):
        # Point by point, each at the least cost then, the first would end at 5, the second at 100.
        self.assertEqual(ask_last(*line(3, {(0, 1): 1, (0, 2): 5, (1, 2): 5}), channels(2)), [1, 0, 0, 1])
        pairs = {(0, 1): 1, (0, 2): 1, (1, 2): 1, (0, 3): 100, (1, 3): 100, (2, 3): 100}
        self.assertEqual(ask_last(*line(4, pairs), channels(3)), [1, 0, 0, 1, 2])
        self.assertEqual(ask_last(*line(4, pairs), channels(2)), [3, 0, 0, 0, 1])

    def test_every_way_of_hearing_among_4_points(self):
        for weights in itertools.product((0, 1, 2), repeat=6):
            pairs = dict(zip(every_pair(4), weights))
            given = ask(*line(4, pairs), *[channels(c) for c in range(1, 5)])[-4:]
            self.assertEqual(given, [best_of_all(4, pairs, c) for c in range(1, 5)], pairs)

    def test_beside_a_plain_look_at_every_way(self):
        dice = random.Random(5)
        for points, lines, most in ((2, 20, 4), (3, 40, 4), (5, 60, 4), (6, 20, 4), (7, 20, 3), (8, 12, 3), (8, 3, 4)):
            for k in range(lines):
                weights = dice.choice(((0, 1), (1, 2, 3), (0, 0, 1, 5), (1, 1000000), range(1, 1000001)))
                pairs = {pair: dice.choice(weights) for pair in every_pair(points)}
                for c in range(1, most + 1):
                    self.assertEqual(
                        ask_last(*line(points, pairs), channels(c)), best_of_all(points, pairs, c), (pairs, c))

    def test_no_way_costs_less(self):
        dice = random.Random(6)
        for k in range(60):
            pairs = {pair: dice.randint(0, 1000000) for pair in every_pair(8)}
            for c in range(1, 5):
                told = ask_last(*line(8, pairs), channels(c))
                self.assertEqual(cost(pairs, told[1:]), told[0])
                self.assertTrue(all(0 <= channel < c for channel in told[1:]))
                for other in range(200):
                    self.assertGreaterEqual(cost(pairs, dice.choices(range(c), k=8)), told[0])

    def test_more_channels_cost_no_more(self):
        dice = random.Random(7)
        for k in range(40):
            pairs = {pair: dice.randint(0, 9) for pair in every_pair(8)}
            told = [answer[0] for answer in ask(*line(8, pairs), *[channels(c) for c in range(1, 5)])[-4:]]
            self.assertEqual(told, sorted(told, reverse=True))

    def test_points_that_are_off_have_channels_too(self):
        self.assertEqual(ask_last(begin(3), hears(0, 2, 5), power(2, 0), channels(2)), [0, 0, 0, 1])

    def test_it_changes_nothing(self):
        calls = line(4, {pair: 3 for pair in every_pair(4)}) + [join(0, 0), join(0, 1), flow(1)]
        world = play(*calls)
        before = snapshot(world)
        first = after(world, *[channels(c) for c in range(1, 5)])
        self.assertEqual(snapshot(world), before)
        self.assertEqual(after(world, *[channels(c) for c in range(1, 5)]), first)

    def test_it_follows_what_is_told_between(self):
        calls = [begin(3), channels(2), hears(0, 1, 4), channels(2), hears(0, 2, 3), channels(2), hears(1, 2, 2)]
        calls += [channels(2), hears(0, 1, 1), channels(2), hears(1, 2, 0), channels(2)]
        self.assertEqual(ask(*calls)[1::2], [
            [0, 0, 0, 0], [0, 0, 1, 0], [0, 0, 1, 1], [2, 0, 1, 1], [1, 0, 0, 1], [0, 0, 1, 1]])

    def test_out_of_range(self):
        ground = line(3, {(0, 1): 5})
        for c in (-1, 0, 5, 6):
            self.refused(ground, channels(c), -2)

    def test_not_begun(self):
        self.assertEqual(ask(channels(1), channels(0), channels(5)), [[-1]] * 3)


if __name__ == "__main__":
    unittest.main()
