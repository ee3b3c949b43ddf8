"""begin, power, join, leave, sleep, wake."""

import unittest

from tests.helper import (
    RefusalTest, accept, after, air, ask, ask_last, bag, begin, deliver, give_up, hears, join, leave, legs, play,
    power, questions, retry, sleep, snapshot, station, wake,
)


class Begin(RefusalTest):
    def test_all_is_new(self):
        world = play(begin(8, 1000, 64, 4096))
        self.assertEqual(len(world.points), 8)
        self.assertEqual([(point.on, point.legs) for point in world.points], [(True, [])] * 8)
        self.assertEqual([station(world, x) for x in range(64)], [(0, -1, -1, True, ())] * 64)
        self.assertEqual(len(world.stations), 64)
        self.assertEqual(bag(world), [])
        self.assertEqual((world.room, world.leg_limit, world.bag_limit), (1000, 64, 4096))

    def test_a_second_time_all_is_anew(self):
        line = [
            begin(3, 5, 5, 5), join(0, 0), accept(0, 0, 7), air(0, 0), join(0, 1), accept(1, 0, 8), join(5, 2),
            sleep(5), leave(0), power(0, 0), hears(0, 1, 9),
        ]
        self.assertEqual(snapshot(play(*line, begin(2, 6, 7, 8))), snapshot(play(begin(2, 6, 7, 8))))
        asked = questions(2, (0, 5, 63))
        self.assertEqual(ask(*line, begin(2, 6, 7, 8), *asked)[len(line):], ask(begin(2, 6, 7, 8), *asked))

    def test_what_is_asked_after_a_second_time(self):
        first = [begin(2, 2, 2, 2), join(0, 0), accept(0, 0, 7), air(0, 0), join(0, 1), join(3, 1), sleep(3)]
        second = [
            begin(3, 2, 2, 2), deliver(0), air(0, 0), accept(0, 0, 1), retry(1, 0), leave(0), wake(3), power(0, 1),
            join(0, 0), accept(0, 0, 1), air(0, 0), join(0, 1), deliver(0),
        ]
        expected = [[0], [-2], [-6], [-7], [0], [-6], [-6], [-3], [1], [1, 1], [1, 1], [2], [1]]
        self.assertEqual(ask(*first, *second)[len(first):], expected)

    def test_a_second_time_turns_points_on(self):
        self.assertEqual(ask_last(begin(1), power(0, 0), begin(1), power(0, 1)), [-3])
        self.assertEqual(ask_last(begin(1), power(0, 0), begin(1), join(0, 0)), [1])

    def test_a_second_time_that_is_refused_changes_nothing(self):
        ground = [begin(2, 5, 5, 5), join(0, 0), accept(0, 0, 7), join(0, 1)]
        for wrong in (begin(0), begin(9), begin(1, 0), begin(1, 1001), begin(1, 1, 0), begin(1, 1, 65),
                      begin(1, 1, 1, 0), begin(1, 1, 1, 4097)):
            self.refused(ground, wrong, -2)


class Power(RefusalTest):
    def test_off_and_on(self):
        self.assertEqual(ask(begin(2), power(1, 0), power(1, 1), power(1, 0)), [[0]] * 4)

    def test_so_already(self):
        self.refused([begin(2)], power(1, 1), -3)
        self.refused([begin(2), power(1, 0)], power(1, 0), -3)
        self.refused([begin(2), join(0, 1), accept(1, 0, 5)], power(1, 1), -3)

    def test_off_loses_the_legs_of_this_point_alone(self):
        world = play(begin(2), join(0, 0), join(1, 1), join(0, 1), accept(1, 0, 3), power(1, 0))
        self.assertEqual((legs(world, 1, 0), legs(world, 1, 1)), ([], []))
        self.assertEqual(legs(world, 0, 0), [(1, ("holds",), 1, (), (), 0)])

    def test_on_again_it_has_no_legs(self):
        world = play(begin(1), join(0, 0), accept(0, 0, 3), power(0, 0), power(0, 1))
        self.assertEqual(world.points[0].legs, [])
        self.assertEqual(after(world, air(0, 0), accept(0, 0, 4)), [[-7], [-7]])

    def test_stations_and_messages_stay_as_they_are(self):
        line = [begin(2), join(0, 0), accept(0, 0, 3), air(0, 0), join(0, 1), sleep(0)]
        before, later = play(*line), play(*line, power(1, 0), power(1, 1))
        self.assertEqual(station(later, 0), station(before, 0))
        self.assertEqual(bag(later), bag(before))
        self.assertEqual(after(later, wake(0), leave(0)), [[0], [0]])


class Join(RefusalTest):
    def test_the_first_holds_and_puts_nothing(self):
        world = play(begin(), join(4, 2))
        self.assertEqual(legs(world, 2, 4), [(1, ("holds",), 1, (), (), 0)])
        self.assertEqual(station(world, 4), (1, 2, 2, True, ()))
        self.assertEqual(bag(world), [])

    def test_the_next_waits_and_puts_take(self):
        world = play(begin(), join(4, 2), accept(2, 4, 9), accept(2, 4, 8), air(2, 4), join(4, 0))
        self.assertEqual(legs(world, 0, 4), [(2, ("waits", 2, 1), 1, (), (), 0)])
        self.assertEqual(station(world, 4), (2, 0, 0, True, (9,)))
        self.assertEqual(bag(world), [("take", 2, 0, 4, 2, 1)])

    def test_joins_are_numbered_for_each_station(self):
        line = [begin(), join(0, 0), join(63, 0), join(0, 1), join(0, 1), join(63, 2), join(1, 1)]
        self.assertEqual(ask(*line), [[0], [1], [1], [2], [3], [2], [1]])

    def test_the_same_point_again(self):
        world = play(begin(), join(0, 1), accept(1, 0, 6), join(0, 1))
        self.assertEqual(
            legs(world, 1, 0), [(1, ("holds",), 2, ((1, 6),), (), 1), (2, ("waits", 1, 0), 1, (), (), 0)])
        self.assertEqual(bag(world), [("take", 1, 1, 0, 2, 0)])
        self.assertEqual(
            after(world, air(1, 0), deliver(0), deliver(0), deliver(0), air(1, 0)), [[-7], [1], [1], [0], [1, 1]])
        self.assertEqual(legs(world, 1, 0), [(2, ("holds",), 2, (), (), 0)])
        self.assertEqual(station(world, 0)[4], (6,))

    def test_another_point_and_back(self):
        world = play(begin(), join(0, 0), join(0, 1), join(0, 0))
        self.assertEqual(bag(world), [("take", 0, 1, 0, 2, 0), ("take", 1, 0, 0, 3, 0)])
        self.assertEqual(
            legs(world, 0, 0), [(1, ("holds",), 1, (), (), 0), (3, ("waits", 1, 0), 1, (), (), 0)])
        self.assertEqual(legs(world, 1, 0), [(2, ("waits", 0, 0), 1, (), (), 0)])

    def test_back_gets_all_in_order(self):
        line = [
            begin(), join(0, 0), accept(0, 0, 5), join(0, 1), accept(1, 0, 6), join(0, 0), accept(0, 0, 7),
            deliver(1), deliver(0), deliver(0), deliver(0), retry(0, 0), deliver(0), deliver(0), deliver(0),
            air(0, 0), air(0, 0), air(0, 0), air(0, 0),
        ]
        expected = [
            [0], [1], [1, 1], [2], [2, 1], [3], [3, 1],
            [1], [1], [1], [0], [1], [1], [1], [0],
            [1, 1], [2, 2], [3, 3], [-9],
        ]
        self.assertEqual(ask(*line), expected)
        self.assertEqual(station(play(*line), 0)[4], (5, 6, 7))

    def test_after_leave_it_asks_the_point_of_the_last_join(self):
        world = play(begin(), join(0, 1), leave(0), join(0, 2))
        self.assertEqual(bag(world), [("take", 1, 2, 0, 2, 0)])

    def test_it_wakes_the_station(self):
        world = play(begin(), join(0, 1), sleep(0), join(0, 2))
        self.assertEqual(station(world, 0), (2, 2, 2, True, ()))
        world = play(begin(), join(0, 1), sleep(0), leave(0), join(0, 1))
        self.assertEqual(station(world, 0), (2, 1, 1, True, ()))

    def test_the_point_is_off(self):
        self.refused([begin(), join(0, 0), power(1, 0)], join(0, 1), -4)
        self.refused([begin(), power(1, 0)], join(0, 1), -4)

    def test_it_asks_a_point_that_is_off(self):
        world = play(begin(), join(0, 0), power(0, 0), join(0, 1))
        self.assertEqual(bag(world), [("take", 0, 1, 0, 2, 0)])

    def test_the_point_has_all_its_legs(self):
        ground = [begin(2, 5, 2, 5), join(0, 0), join(1, 0)]
        self.refused(ground, join(2, 0), -5)
        self.refused(ground, join(0, 0), -5)
        self.assertEqual(ask_last(*ground, join(2, 1)), [1])

    def test_legs_of_all_states_count(self):
        ground = [begin(2, 5, 3, 5), join(0, 0), join(0, 0), deliver(0), join(1, 0)]
        self.assertEqual([leg[1][0] for leg in legs(play(*ground), 0, 0)], ["handed", "waits"])
        self.refused(ground, join(2, 0), -5)
        self.assertEqual(ask(*ground, deliver(0), join(2, 0), deliver(0), join(2, 0))[-4:], [[1], [-5], [0], [1]])

    def test_the_least_and_the_greatest_count_of_legs(self):
        self.assertEqual(ask(begin(1, 1, 1, 1), join(0, 0), join(1, 0)), [[0], [1], [-5]])
        line = [begin(1, 1, 64, 1)] + [join(x, 0) for x in range(64)] + [join(0, 0)]
        self.assertEqual(ask(*line), [[0]] + [[1]] * 64 + [[-5]])

    def test_off_is_told_ahead_of_too_many_legs(self):
        # A point that's off has no legs, so the two never fit at once; on again, its legs are free.
        ground = [begin(1, 5, 1, 5), join(0, 0), power(0, 0)]
        self.refused(ground, join(1, 0), -4)
        self.assertEqual(ask_last(*ground, power(0, 1), join(1, 0)), [1])

    def test_a_full_bag_loses_the_take(self):
        world = play(begin(3, 5, 5, 1), join(0, 0), join(0, 1), join(0, 2))
        self.assertEqual(bag(world), [("take", 0, 1, 0, 2, 0)])
        self.assertEqual(legs(world, 2, 0), [(3, ("waits", 1, 0), 1, (), (), 0)])
        self.assertEqual(station(world, 0), (3, 2, 2, True, ()))


class Leave(RefusalTest):
    def test_it_is_at_no_point(self):
        world = play(begin(), join(0, 1), accept(1, 0, 5), leave(0))
        self.assertEqual(station(world, 0), (1, -1, 1, True, ()))
        self.assertEqual(ask(begin(), join(0, 1), leave(0), air(1, 0), leave(0)), [[0], [1], [0], [-6], [-6]])

    def test_no_point_hears_of_it(self):
        line = [begin(), join(0, 1), accept(1, 0, 5)]
        self.assertEqual(snapshot(play(*line, leave(0)).points), snapshot(play(*line).points))
        self.assertEqual(bag(play(*line, leave(0))), [])
        self.assertEqual(ask_last(*line, leave(0), accept(1, 0, 6)), [1, 2])

    def test_only_this_station(self):
        self.assertEqual(ask(begin(), join(0, 1), join(1, 1), leave(0), leave(1)), [[0], [1], [1], [0], [0]])

    def test_at_no_point(self):
        self.refused([begin()], leave(0), -6)
        self.refused([begin(), join(0, 0), leave(0)], leave(0), -6)

    def test_asleep(self):
        world = play(begin(), join(0, 1), sleep(0), leave(0))
        self.assertEqual(station(world, 0), (1, -1, 1, False, ()))

    def test_at_a_point_that_is_off(self):
        self.assertEqual(ask_last(begin(), join(0, 1), power(1, 0), leave(0)), [0])


class SleepAndWake(RefusalTest):
    def test_to_and_fro(self):
        line = [begin(), join(0, 0), accept(0, 0, 5), sleep(0), air(0, 0), wake(0), air(0, 0)]
        self.assertEqual(ask(*line), [[0], [1], [1, 1], [0], [-6], [0], [1, 1]])

    def test_they_change_nothing_else(self):
        line = [begin(), join(0, 0), accept(0, 0, 5), join(0, 1)]
        self.assertEqual(station(play(*line, sleep(0)), 0), (2, 1, 1, False, ()))
        self.assertEqual(snapshot(play(*line, sleep(0), wake(0))), snapshot(play(*line)))

    def test_at_no_point(self):
        for ground in ([begin()], [begin(), join(0, 0), leave(0)], [begin(), join(0, 0), sleep(0), leave(0)]):
            self.refused(ground, sleep(0), -6)
            self.refused(ground, wake(0), -6)

    def test_asleep_or_awake_already(self):
        self.refused([begin(), join(0, 0), sleep(0)], sleep(0), -6)
        self.refused([begin(), join(0, 0)], wake(0), -6)
        self.refused([begin(), join(0, 0), sleep(0), wake(0)], wake(0), -6)

    def test_only_this_station(self):
        line = [begin(), join(0, 0), join(1, 0), sleep(0), wake(1), sleep(1), wake(0)]
        self.assertEqual(ask(*line)[3:], [[0], [-6], [0], [0]])

    def test_at_a_point_that_is_off(self):
        self.assertEqual(ask(begin(), join(0, 1), power(1, 0), sleep(0), wake(0))[3:], [[0], [0]])

    def test_points_take_in_and_hand_on_while_it_sleeps(self):
        line = [begin(), join(0, 0), accept(0, 0, 5), join(0, 1), sleep(0), accept(1, 0, 6), give_up(1, 0)]
        line += [deliver(0), deliver(0), wake(0), air(1, 0), air(1, 0)]
        self.assertEqual(ask(*line)[5:], [[2, 1], [-7], [1], [1], [0], [1, 1], [2, 2]])


if __name__ == "__main__":
    unittest.main()
