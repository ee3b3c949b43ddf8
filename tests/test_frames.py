"""accept and air."""

import unittest

from tests.helper import (
    RefusalTest, accept, after, air, ask, ask_last, bag, begin, deliver, give_up, join, leave, legs, play, power,
    sleep, snapshot, station, wake,
)


class Accept(RefusalTest):
    def test_at_a_leg_that_holds(self):
        line = [begin(), join(0, 0), accept(0, 0, 0), accept(0, 0, 4294967295)]
        self.assertEqual(ask(*line)[2:], [[1, 1], [1, 2]])
        self.assertEqual(legs(play(*line), 0, 0), [(1, ("holds",), 3, ((1, 0), (2, 4294967295)), (), 2)])

    def test_at_a_leg_that_waits(self):
        line = [begin(), join(0, 0), join(0, 1), accept(1, 0, 7), accept(1, 0, 6)]
        self.assertEqual(ask(*line)[3:], [[2, 1], [2, 2]])
        self.assertEqual(legs(play(*line), 1, 0), [(2, ("waits", 0, 0), 1, (), (7, 6), 2)])

    def test_the_count_goes_on_when_the_leg_comes_to_hold(self):
        line = [begin(), join(0, 0), join(0, 1), accept(1, 0, 7), deliver(0), deliver(0), accept(1, 0, 6)]
        self.assertEqual(ask_last(*line), [2, 2])
        self.assertEqual(legs(play(*line), 1, 0), [(2, ("holds",), 3, ((1, 7), (2, 6)), (), 2)])

    def test_the_count_is_of_what_was_taken_in_not_of_what_is_kept(self):
        line = [begin(), join(0, 0), accept(0, 0, 5), air(0, 0), accept(0, 0, 6), join(0, 1), deliver(0), deliver(0)]
        self.assertEqual(ask(*line)[4], [1, 2])
        self.assertEqual(ask_last(*line, accept(1, 0, 9)), [2, 1])

    def test_at_the_latest_of_several(self):
        line = [begin(), join(0, 0), accept(0, 0, 5), join(0, 0), accept(0, 0, 6), join(0, 0), accept(0, 0, 7)]
        self.assertEqual(ask(*line)[2::2], [[1, 1], [2, 1], [3, 1]])

    def test_at_an_older_leg_while_a_later_one_is_elsewhere(self):
        line = [begin(), join(0, 0), join(0, 1), accept(0, 0, 5), accept(1, 0, 6), accept(0, 0, 7)]
        self.assertEqual(ask(*line)[3:], [[1, 1], [2, 1], [1, 2]])
        line += [deliver(0), deliver(0), air(1, 0), air(1, 0), air(1, 0)]
        self.assertEqual(station(play(*line), 0)[4], (5, 7, 6))

    def test_at_an_older_leg_that_waits(self):
        line = [begin(), join(0, 0), join(0, 1), join(0, 2), accept(1, 0, 5), accept(2, 0, 6), accept(0, 0, 7)]
        self.assertEqual(ask(*line)[4:], [[2, 1], [3, 1], [1, 1]])

    def test_at_an_older_leg_that_holds_when_the_later_one_there_is_handed(self):
        # Join 2 is lost with point 1's power, so join 1 is never asked for what it keeps.
        line = [
            begin(), join(0, 0), join(0, 1), power(1, 0), join(0, 0), give_up(0, 0), accept(0, 0, 5), join(0, 2),
            deliver(2),
        ]
        self.assertEqual(
            legs(play(*line), 0, 0),
            [(1, ("holds",), 1, (), (), 0), (3, ("handed", 2), 2, ((1, 5),), (), 1)])
        self.assertEqual(ask_last(*line, accept(0, 0, 6)), [1, 1])

    def test_after_the_station_has_left_or_sleeps(self):
        ground = [begin(), join(0, 0)]
        self.assertEqual(ask_last(*ground, leave(0), accept(0, 0, 5)), [1, 1])
        self.assertEqual(ask_last(*ground, sleep(0), accept(0, 0, 5)), [1, 1])

    def test_the_point_is_off(self):
        self.refused([begin(), join(0, 0), power(0, 0)], accept(0, 0, 5), -4)

    def test_no_leg_of_the_station(self):
        self.refused([begin(), join(1, 0)], accept(0, 0, 5), -7)
        self.refused([begin(), join(0, 0)], accept(1, 0, 5), -7)
        self.refused([begin(), join(0, 0), power(0, 0), power(0, 1)], accept(0, 0, 5), -7)

    def test_only_a_handed_leg(self):
        self.refused([begin(), join(0, 0), join(0, 1), deliver(0)], accept(0, 0, 5), -7)

    def test_no_room(self):
        self.refused([begin(2, 1), join(0, 0), accept(0, 0, 5)], accept(0, 0, 6), -8)
        self.refused([begin(2, 2), join(0, 0), accept(0, 0, 5), accept(0, 0, 6)], accept(0, 0, 7), -8)
        self.assertEqual(ask_last(begin(2, 2), join(0, 0), accept(0, 0, 5), accept(0, 0, 6)), [1, 2])

    def test_room_is_for_all_stations_at_the_point(self):
        ground = [begin(2, 2), join(0, 0), join(1, 0), accept(0, 0, 5), accept(0, 1, 6)]
        self.refused(ground, accept(0, 0, 7), -8)
        self.assertEqual(ask(*ground, join(2, 1), accept(1, 2, 7))[-2:], [[1], [1, 1]])

    def test_fresh_frames_count(self):
        self.refused([begin(2, 1), join(0, 0), join(0, 1), accept(1, 0, 5)], accept(1, 0, 6), -8)

    def test_copies_of_handed_legs_count(self):
        ground = [begin(2, 1), join(0, 0), join(1, 0), accept(0, 0, 5), join(0, 1), deliver(0), deliver(0)]
        self.refused(ground, accept(0, 1, 6), -8)
        self.assertEqual(ask(*ground, deliver(0), accept(0, 1, 6))[-2:], [[0], [1, 1]])

    def test_more_than_room(self):
        ground = [begin(2, 2), join(0, 0), accept(0, 0, 5), accept(0, 0, 6), join(1, 1), accept(1, 1, 7), join(0, 1)]
        ground += [deliver(0), deliver(0)]
        self.assertEqual(sum(len(leg.queue) for leg in play(*ground).points[1].legs), 3)
        self.refused(ground, accept(1, 0, 8), -8)

    def test_room_is_free_again(self):
        self.assertEqual(
            ask(begin(1, 1), join(0, 0), accept(0, 0, 5), accept(0, 0, 6), air(0, 0), accept(0, 0, 6))[2:],
            [[1, 1], [-8], [1, 1], [1, 2]])

    def test_the_greatest_room(self):
        line = [begin(1, 1000), join(0, 0)] + [accept(0, 0, k) for k in range(111)]
        for k in range(8):
            line += [join(0, 0), deliver(k), deliver(k)]
        # Nine legs with 111 frames each: 999.
        line += [accept(0, 0, 5), accept(0, 0, 6)]
        self.assertEqual(ask(*line)[-2:], [[9, 1], [-8]])

    def test_no_leg_is_told_ahead_of_no_room(self):
        self.refused([begin(1, 1), join(0, 0), accept(0, 0, 5)], accept(0, 1, 6), -7)

    def test_off_is_told_ahead_of_no_leg(self):
        self.refused([begin(1, 1), join(0, 0), power(0, 0)], accept(0, 1, 6), -4)


TWO_FRAMES = [begin(), join(0, 0), accept(0, 0, 55), accept(0, 0, 66)]


class Air(RefusalTest):
    def test_neither_lost(self):
        world = play(*TWO_FRAMES)
        self.assertEqual(after(world, air(0, 0, 0, 0)), [[1, 1]])
        self.assertEqual(station(world, 0)[4], (55,))
        self.assertEqual(legs(world, 0, 0), [(1, ("holds",), 3, ((2, 66),), (), 2)])

    def test_the_frame_lost(self):
        world = play(*TWO_FRAMES)
        before = snapshot(world)
        self.assertEqual(after(world, air(0, 0, 1, 0)), [[1, 0]])
        self.assertEqual(snapshot(world), before)

    def test_both_lost(self):
        world = play(*TWO_FRAMES)
        before = snapshot(world)
        self.assertEqual(after(world, air(0, 0, 1, 1)), [[1, 0]])
        self.assertEqual(snapshot(world), before)

    def test_the_word_lost(self):
        world = play(*TWO_FRAMES)
        self.assertEqual(after(world, air(0, 0, 0, 1)), [[1, 1]])
        self.assertEqual(station(world, 0)[4], (55,))
        self.assertEqual(legs(world, 0, 0), [(1, ("holds",), 3, ((1, 55), (2, 66)), (), 2)])

    def test_a_frame_that_it_has_already(self):
        world = play(*TWO_FRAMES, air(0, 0, 0, 1))
        self.assertEqual(after(world, air(0, 0, 1, 0), air(0, 0, 0, 1), air(0, 0, 0, 0)), [[1, 1]] * 3)
        self.assertEqual(station(world, 0)[4], (55,))
        self.assertEqual(legs(world, 0, 0), [(1, ("holds",), 3, ((2, 66),), (), 2)])

    def test_what_the_lost_word_told_the_next_join_tells(self):
        world = play(*TWO_FRAMES, air(0, 0), air(0, 0, 0, 1), join(0, 1), deliver(0), deliver(0))
        self.assertEqual(station(world, 0)[4], (55, 66))
        self.assertEqual(legs(world, 1, 0), [(2, ("holds",), 3, (), (), 0)])
        self.assertEqual(after(world, air(1, 0)), [[-9]])

    def test_the_number_sent_and_the_count_go_on_at_the_next_point(self):
        line = TWO_FRAMES + [air(0, 0), join(0, 1), deliver(0), deliver(0), air(1, 0, 1, 0), air(1, 0), air(1, 0)]
        self.assertEqual(ask(*line)[-3:], [[2, 1], [2, 2], [-9]])

    def test_each_station_gets_its_own(self):
        line = [begin(), join(0, 0), join(1, 0), accept(0, 0, 5), accept(0, 1, 6), air(0, 1)]
        world = play(*line)
        self.assertEqual((station(world, 0)[4], station(world, 1)[4]), ((), (6,)))

    def test_the_point_is_off(self):
        self.refused(TWO_FRAMES + [power(0, 0)], air(0, 0), -4)

    def test_off_is_told_ahead_of_all_else(self):
        self.refused(TWO_FRAMES + [power(1, 0)], air(1, 0), -4)
        self.refused(TWO_FRAMES + [sleep(0), power(0, 0)], air(0, 0), -4)
        self.refused([begin(), power(0, 0)], air(0, 0), -4)

    def test_the_station_is_not_there(self):
        self.refused(TWO_FRAMES, air(1, 0), -6)
        self.refused(TWO_FRAMES + [leave(0)], air(0, 0), -6)
        self.refused(TWO_FRAMES + [join(0, 1)], air(0, 0), -6)
        self.refused(TWO_FRAMES, air(0, 1), -6)

    def test_the_station_sleeps(self):
        self.refused(TWO_FRAMES + [sleep(0)], air(0, 0), -6)

    def test_not_there_or_asleep_is_told_ahead_of_no_leg(self):
        self.refused(TWO_FRAMES + [join(0, 1), sleep(0)], air(1, 0), -6)
        self.refused(TWO_FRAMES + [power(0, 0), power(0, 1), sleep(0)], air(0, 0), -6)
        self.refused([begin(), join(0, 0), leave(0)], air(0, 0), -6)

    def test_the_leg_waits(self):
        self.refused(TWO_FRAMES + [join(0, 1), accept(1, 0, 7)], air(1, 0), -7)

    def test_an_older_leg_that_holds_is_not_sent_from(self):
        self.refused(TWO_FRAMES + [join(0, 0)], air(0, 0), -7)

    def test_no_leg(self):
        self.refused(TWO_FRAMES + [power(0, 0), power(0, 1)], air(0, 0), -7)

    def test_an_older_leg_is_not_sent_from_when_the_last_is_lost(self):
        # The last join's leg is gone with point 1's power; the one at point 0 stays unused.
        ground = TWO_FRAMES + [join(0, 1), power(1, 0), power(1, 1)]
        self.refused(ground, air(1, 0), -7)
        self.refused(ground, air(0, 0), -6)

    def test_an_empty_queue(self):
        self.refused([begin(), join(0, 0)], air(0, 0), -9)
        self.refused(TWO_FRAMES + [air(0, 0), air(0, 0)], air(0, 0), -9)

    def test_waits_is_told_ahead_of_an_empty_queue(self):
        self.refused([begin(), join(0, 0), join(0, 1)], air(1, 0), -7)

    def test_the_lost_bits_do_not_lift_a_refusal(self):
        for bits in ((0, 0), (0, 1), (1, 0), (1, 1)):
            self.refused([begin(), join(0, 0)], air(0, 0, *bits), -9)

    def test_nothing_is_put_on_the_wire(self):
        self.assertEqual(bag(play(*TWO_FRAMES, air(0, 0))), [])

    def test_wake_then_air(self):
        self.assertEqual(ask_last(*TWO_FRAMES, sleep(0), wake(0), air(0, 0)), [1, 1])


if __name__ == "__main__":
    unittest.main()
