"""station, got, legs, beacon and bag: calls that only ask."""

import unittest

from tests.helper import (
    RefusalTest, accept, after, air, ask, ask_last, begin, deliver, double, flow, give_up, join, leave, lose, play,
    power, retry, sleep, snapshot, tell_bag, tell_beacon, tell_got, tell_legs, tell_station, wake,
)

GREATEST_FRAME = 4294967295

# Station 7 has got one of the three frames taken in for it at point 0, and has gone on to point 2.
FRAMES = [accept(0, 7, 50), accept(0, 7, 60), accept(0, 7, 70)]
ROAMED = [begin(), join(7, 0)] + FRAMES + [air(0, 7), join(7, 2)]


class AskingTest(RefusalTest):
    def told(self, line, call, numbers):
        """The call answers the numbers behind the line, in the interface and on a world that it leaves as it was."""
        self.assertEqual(ask_last(*line, call), numbers)
        world = play(*line)
        before = snapshot(world)
        self.assertEqual(after(world, call, call), [numbers] * 2)
        self.assertEqual(snapshot(world), before)


class Station(AskingTest):
    def test_before_a_join(self):
        for x in (0, 1, 63):
            self.told([begin()], tell_station(x), [0, -1, 1, 0])
            self.told([begin(), join(5, 0), sleep(5)], tell_station(x), [0, -1, 1, 0])

    def test_after_a_join(self):
        self.told([begin(), join(0, 0)], tell_station(0), [1, 0, 1, 0])
        self.told([begin(8), join(63, 7)], tell_station(63), [1, 7, 1, 0])

    def test_after_several_joins(self):
        self.told([begin(), join(4, 0), join(4, 2), join(4, 1)], tell_station(4), [3, 1, 1, 0])

    def test_after_leave(self):
        self.told([begin(), join(4, 2), leave(4)], tell_station(4), [1, -1, 1, 0])
        self.told([begin(), join(4, 2), leave(4), join(4, 2)], tell_station(4), [2, 2, 1, 0])

    def test_asleep(self):
        self.told([begin(), join(4, 2), sleep(4)], tell_station(4), [1, 2, 0, 0])
        self.told([begin(), join(4, 2), sleep(4), wake(4)], tell_station(4), [1, 2, 1, 0])
        self.told([begin(), join(4, 2), sleep(4), join(4, 1)], tell_station(4), [2, 1, 1, 0])

    def test_it_left_asleep(self):
        self.told([begin(), join(4, 2), sleep(4), leave(4)], tell_station(4), [1, -1, 0, 0])
        self.told([begin(), join(4, 2), sleep(4), leave(4), join(4, 0)], tell_station(4), [2, 0, 1, 0])

    def test_frames_that_it_has_got(self):
        ground = [begin(), join(0, 0), accept(0, 0, 5), accept(0, 0, 6), accept(0, 0, 7)]
        self.told(ground, tell_station(0), [1, 0, 1, 0])
        self.told(ground + [air(0, 0)], tell_station(0), [1, 0, 1, 1])
        self.told(ground + [air(0, 0), air(0, 0, 0, 1)], tell_station(0), [1, 0, 1, 2])
        self.told(ground + [air(0, 0, 1, 0)], tell_station(0), [1, 0, 1, 0])
        self.told(ground + [air(0, 0), leave(0)], tell_station(0), [1, -1, 1, 1])
        self.told(ROAMED, tell_station(7), [2, 2, 1, 1])

    def test_its_point_is_off(self):
        self.told([begin(), join(4, 2), power(2, 0)], tell_station(4), [1, 2, 1, 0])
        self.told([begin(), join(4, 2), sleep(4), power(2, 0), power(2, 1)], tell_station(4), [1, 2, 0, 0])

    def test_after_begin_anew(self):
        self.told(ROAMED + [sleep(7), begin()], tell_station(7), [0, -1, 1, 0])

    def test_refused(self):
        self.refused(ROAMED, tell_station(64), -2)
        self.refused(ROAMED, tell_station(-1), -2)
        self.assertEqual(ask(tell_station(0), tell_station(64)), [[-1], [-1]])


class Got(AskingTest):
    def test_none(self):
        self.told([begin()], tell_got(0), [0])
        self.told([begin(), join(0, 0), accept(0, 0, 5)], tell_got(0), [0])
        self.told([begin(), join(0, 0), accept(0, 0, 5), air(0, 0, 1, 0)], tell_got(0), [0])

    def test_several_in_order(self):
        frames = (9, 0, GREATEST_FRAME, 9, 1)
        ground = [begin(), join(3, 1)] + [accept(1, 3, frame) for frame in frames]
        for count in range(6):
            self.told(ground + [air(1, 3)] * count, tell_got(3), [count, *frames[:count]])

    def test_none_twice_when_words_are_lost(self):
        ground = [begin(), join(0, 0), accept(0, 0, 5), accept(0, 0, 6)]
        self.told(ground + [air(0, 0, 0, 1)] * 3 + [air(0, 0)], tell_got(0), [1, 5])
        self.told(ground + [air(0, 0, 0, 1)] * 3 + [air(0, 0)] * 2, tell_got(0), [2, 5, 6])

    def test_from_several_points(self):
        line = ROAMED + [accept(2, 7, 80), flow(9), air(2, 7), join(7, 1), flow(9), air(1, 7), air(1, 7)]
        self.told(line, tell_got(7), [4, 50, 60, 70, 80])

    def test_after_leave_asleep_and_power_off(self):
        ground = [begin(), join(0, 0), accept(0, 0, 5), air(0, 0)]
        for call in (leave(0), sleep(0), power(0, 0)):
            self.told(ground + [call], tell_got(0), [1, 5])

    def test_each_station_its_own(self):
        line = [begin(), join(0, 0), join(1, 0), accept(0, 0, 5), accept(0, 1, 6), air(0, 1), air(0, 0)]
        self.told(line, tell_got(0), [1, 5])
        self.told(line, tell_got(1), [1, 6])
        self.told(line, tell_got(2), [0])

    def test_after_begin_anew(self):
        self.told(ROAMED + [begin()], tell_got(7), [0])

    def test_refused(self):
        self.refused(ROAMED, tell_got(64), -2)
        self.refused(ROAMED, tell_got(-1), -2)
        self.assertEqual(ask(tell_got(0), tell_got(64)), [[-1], [-1]])


class Legs(AskingTest):
    def test_none(self):
        self.told([begin()], tell_legs(0, 0), [0])
        self.told([begin(), join(0, 0)], tell_legs(1, 0), [0])
        self.told([begin(), join(0, 0)], tell_legs(0, 1), [0])

    def test_one_that_holds(self):
        self.told([begin(), join(0, 0)], tell_legs(0, 0), [1, 1, 1, 0, 0, 1, 0, 0, 0])

    def test_one_that_holds_with_a_queue(self):
        line = [begin(), join(5, 2), accept(2, 5, 0), accept(2, 5, GREATEST_FRAME)]
        self.told(line, tell_legs(2, 5), [1, 1, 1, 0, 0, 3, 2, 1, 0, 2, GREATEST_FRAME, 0, 2])
        self.told(line + [air(2, 5)], tell_legs(2, 5), [1, 1, 1, 0, 0, 3, 1, 2, GREATEST_FRAME, 0, 2])
        self.told(line + [air(2, 5)] * 2, tell_legs(2, 5), [1, 1, 1, 0, 0, 3, 0, 0, 2])

    def test_one_that_waits(self):
        self.told(ROAMED, tell_legs(2, 7), [1, 2, 0, 0, 1, 1, 0, 0, 0])

    def test_one_that_waits_for_a_point_other_than_0(self):
        self.told([begin(), join(0, 2), join(0, 1)], tell_legs(1, 0), [1, 2, 0, 2, 0, 1, 0, 0, 0])
        self.told([begin(), join(0, 2), join(0, 2), join(0, 1)], tell_legs(1, 0), [1, 3, 0, 2, 0, 1, 0, 0, 0])

    def test_one_that_waits_with_fresh_frames(self):
        line = ROAMED + [accept(2, 7, GREATEST_FRAME), accept(2, 7, 0), accept(2, 7, 80)]
        self.told(line, tell_legs(2, 7), [1, 2, 0, 0, 1, 1, 0, 3, GREATEST_FRAME, 0, 80, 3])

    def test_one_that_is_handed(self):
        line = ROAMED + [deliver(0)]
        self.told(line, tell_legs(0, 7), [1, 1, 2, 2, 0, 4, 2, 2, 60, 3, 70, 0, 3])
        self.told(line + [deliver(0)], tell_legs(0, 7), [1, 1, 2, 2, 0, 4, 2, 2, 60, 3, 70, 0, 3])
        self.told(line + [deliver(0)] * 2, tell_legs(0, 7), [0])

    def test_one_that_is_handed_with_an_empty_queue(self):
        self.told([begin(), join(0, 0), join(0, 2), deliver(0)], tell_legs(0, 0), [1, 1, 2, 2, 0, 1, 0, 0, 0])

    def test_one_that_waited_and_was_handed(self):
        # n was 1 while it waited; once it's handed, 0 stands there.
        line = ROAMED + [flow(9), join(7, 1), deliver(0)]
        self.told(line, tell_legs(2, 7), [1, 2, 2, 1, 0, 4, 2, 2, 60, 3, 70, 0, 0])

    def test_one_that_waited_and_holds(self):
        line = ROAMED + [accept(2, 7, 80)]
        for came in ([deliver(0), deliver(0)], [flow(9)]):
            self.told(line + came, tell_legs(2, 7), [1, 2, 1, 0, 0, 5, 3, 2, 60, 3, 70, 4, 80, 0, 1])
        for came in ([power(0, 0), give_up(2, 7)], [power(0, 0), power(0, 1), flow(9)]):
            self.told(line + came, tell_legs(2, 7), [1, 2, 1, 0, 0, 3, 1, 2, 80, 0, 1])

    def test_several_of_one_station_at_one_point(self):
        # Join 1 is handed, join 2 has come to hold, join 3 waits; station 1 is between them.
        line = [
            begin(), join(0, 1), accept(1, 0, 5), join(0, 1), join(1, 1), accept(1, 1, 9), join(0, 1), deliver(0),
            deliver(1), accept(1, 0, 6),
        ]
        self.told(line, tell_legs(1, 0), [
            3, 1, 2, 1, 0, 2, 1, 1, 5, 0, 1,
            2, 1, 0, 0, 2, 1, 1, 5, 0, 0,
            3, 0, 1, 0, 1, 0, 1, 6, 1,
        ])
        self.told(line, tell_legs(1, 1), [1, 1, 1, 0, 0, 2, 1, 1, 9, 0, 1])
        self.told(line, tell_legs(0, 0), [0])

    def test_in_the_order_of_joins_with_others_elsewhere(self):
        line = [begin(), join(0, 1), join(0, 0), join(0, 1), join(0, 2), join(0, 1)]
        self.told(line, tell_legs(1, 0), [
            3, 1, 1, 0, 0, 1, 0, 0, 0,
            3, 0, 0, 0, 1, 0, 0, 0,
            5, 0, 2, 0, 1, 0, 0, 0,
        ])

    def test_64_of_one_station(self):
        line = [begin(1, 1, 64, 1)] + [join(0, 0)] * 64
        rows = [1, 1, 0, 0, 1, 0, 0, 0]
        for j in range(2, 65):
            rows += [j, 0, 0, 0, 1, 0, 0, 0]
        self.told(line, tell_legs(0, 0), [64] + rows)

    def test_the_station_left_or_sleeps(self):
        for call in (leave(7), sleep(7)):
            self.told(ROAMED + [call], tell_legs(2, 7), [1, 2, 0, 0, 1, 1, 0, 0, 0])

    def test_at_a_point_that_is_off(self):
        self.told(ROAMED + [power(2, 0)], tell_legs(2, 7), [0])
        self.told(ROAMED + [power(2, 0), power(2, 1)], tell_legs(2, 7), [0])
        self.told(ROAMED + [power(2, 0)], tell_legs(0, 7), [1, 1, 1, 0, 0, 4, 2, 2, 60, 3, 70, 0, 3])

    def test_after_begin_anew(self):
        self.told(ROAMED + [begin()], tell_legs(0, 7), [0])

    def test_refused(self):
        for wrong in (tell_legs(-1, 7), tell_legs(3, 7), tell_legs(0, -1), tell_legs(0, 64), tell_legs(3, 64)):
            self.refused(ROAMED, wrong, -2)
        self.assertEqual(ask(tell_legs(0, 0), tell_legs(8, 64)), [[-1], [-1]])


class Beacon(AskingTest):
    def test_none(self):
        self.told([begin()], tell_beacon(0), [0])

    def test_an_empty_queue(self):
        self.told([begin(), join(0, 0)], tell_beacon(0), [0])
        self.told([begin(), join(0, 0), accept(0, 0, 5), air(0, 0)], tell_beacon(0), [0])

    def test_one(self):
        line = [begin(), join(5, 1), accept(1, 5, 9)]
        self.told(line, tell_beacon(1), [1, 5, 1, 1])
        self.told(line, tell_beacon(0), [0])
        self.told(line + [accept(1, 5, 9), accept(1, 5, 8)], tell_beacon(1), [1, 5, 3, 1])

    def test_several_in_order_awake_and_asleep(self):
        # They join in another order than that of their numbers.
        line = [begin()]
        for x in (63, 4, 0, 9, 5):
            line += [join(x, 1)] + [accept(1, x, 7)] * (x % 5)
        line += [accept(1, 0, 8), sleep(4), sleep(0), join(1, 0), accept(0, 1, 3)]
        self.told(line, tell_beacon(1), [4, 0, 1, 0, 4, 4, 0, 9, 4, 1, 63, 3, 1])
        self.told(line + [wake(4)], tell_beacon(1), [4, 0, 1, 0, 4, 4, 1, 9, 4, 1, 63, 3, 1])
        self.told(line, tell_beacon(0), [1, 1, 1, 1])
        self.told(line, tell_beacon(2), [0])

    def test_all_stations(self):
        line = [begin()] + [join(x, 0) for x in range(63, -1, -1)] + [accept(0, x, x) for x in range(64)]
        self.told(line, tell_beacon(0), [64] + [number for x in range(64) for number in (x, 1, 1)])

    def test_a_leg_that_waits(self):
        line = ROAMED + [accept(2, 7, 80)]
        self.told(line, tell_beacon(2), [0])
        self.told(line, tell_beacon(0), [0])
        self.told(line + [flow(9)], tell_beacon(2), [1, 7, 3, 1])

    def test_an_older_leg_that_holds(self):
        self.told([begin(), join(0, 0), accept(0, 0, 5), join(0, 0)], tell_beacon(0), [0])
        self.told([begin(), join(0, 0), accept(0, 0, 5), join(0, 0), flow(9)], tell_beacon(0), [1, 0, 1, 1])

    def test_a_leg_that_is_handed(self):
        self.told(ROAMED + [deliver(0)], tell_beacon(0), [0])
        self.told(ROAMED + [deliver(0), deliver(0)], tell_beacon(0), [0])

    def test_a_station_that_has_left(self):
        line = [begin(), join(0, 0), accept(0, 0, 5), join(1, 0), accept(0, 1, 6), leave(0)]
        self.told(line, tell_beacon(0), [1, 1, 1, 1])
        # Its last join's leg is still there, but the station isn't.
        self.told(line, tell_legs(0, 0), [1, 1, 1, 0, 0, 2, 1, 1, 5, 0, 1])

    def test_a_station_that_is_elsewhere(self):
        # Its last join's leg is lost with point 1's power; an older one at point 0 still holds.
        line = [begin(), join(0, 0), accept(0, 0, 5), join(0, 1), power(1, 0), power(1, 1)]
        self.told(line, tell_beacon(0), [0])
        self.told(line, tell_beacon(1), [0])

    def test_a_point_that_is_off(self):
        line = [begin(), join(0, 0), accept(0, 0, 5), power(0, 0)]
        self.told(line, tell_beacon(0), [0])
        self.told(line + [power(0, 1)], tell_beacon(0), [0])

    def test_a_word_that_was_lost(self):
        self.told([begin(), join(0, 0), accept(0, 0, 5), air(0, 0, 0, 1)], tell_beacon(0), [1, 0, 1, 1])

    def test_it_tells_what_can_be_sent(self):
        line = [begin(), join(0, 0), accept(0, 0, 5), join(1, 0), join(2, 0), accept(0, 2, 6)]
        self.told(line, tell_beacon(0), [2, 0, 1, 1, 2, 1, 1])
        self.assertEqual(ask(*line, air(0, 0, 1, 1), air(0, 1), air(0, 2, 1, 1))[-3:], [[1, 0], [-9], [1, 0]])

    def test_after_begin_anew(self):
        self.told([begin(), join(0, 0), accept(0, 0, 5), begin()], tell_beacon(0), [0])

    def test_refused(self):
        self.refused(ROAMED, tell_beacon(3), -2)
        self.refused(ROAMED, tell_beacon(-1), -2)
        self.assertEqual(ask(tell_beacon(0), tell_beacon(8)), [[-1], [-1]])


TAKE = [0, 0, 2, 7, 2, 1]
GIVE = [1, 2, 0, 7, 2, 4, 2, 2, 60, 3, 70]
LACK = [2, 2, 7, 2]
HAVE = [3, 0, 7, 2]


class Bag(AskingTest):
    def test_none(self):
        self.told([begin()], tell_bag(), [0])
        self.told([begin(), join(0, 0)], tell_bag(), [0])
        self.told(ROAMED + [lose(0)], tell_bag(), [0])

    def test_take(self):
        self.told(ROAMED, tell_bag(), [1] + TAKE)

    def test_give_with_a_queue(self):
        self.told(ROAMED + [deliver(0)], tell_bag(), [1] + GIVE)

    def test_give_with_an_empty_queue(self):
        self.told([begin(), join(7, 0), join(7, 2), deliver(0)], tell_bag(), [1, 1, 2, 0, 7, 2, 1, 0])
        line = [begin(), join(7, 0), accept(0, 7, 5), air(0, 7, 0, 1), join(7, 2), deliver(0)]
        self.told(line, tell_bag(), [1, 1, 2, 0, 7, 2, 2, 0])

    def test_lack(self):
        self.told(ROAMED + [power(0, 0), power(0, 1), deliver(0)], tell_bag(), [1] + LACK)

    def test_have(self):
        self.told(ROAMED + [deliver(0), deliver(0)], tell_bag(), [1] + HAVE)

    def test_each_kind_in_the_order_in_which_they_were_put(self):
        # The first take is doubled twice; one comes when the leg is gone, and puts lack.
        line = ROAMED + [double(0), double(0), deliver(0), double(2), deliver(2), deliver(3), deliver(0)]
        self.told(line, tell_bag(), [3] + TAKE + GIVE + LACK)
        self.told(line + [deliver(1)], tell_bag(), [3] + TAKE + LACK + HAVE)

    def test_what_was_put_does_not_change(self):
        # The leg that came to hold goes on; the doubled give stays as it was put.
        line = ROAMED + [deliver(0), double(0), deliver(0), air(2, 7), accept(2, 7, 90)]
        self.told(line, tell_bag(), [2] + GIVE + HAVE)
        self.told(line + [power(0, 0), power(2, 0)], tell_bag(), [2] + GIVE + HAVE)

    def test_of_several_stations(self):
        line = [begin(8), join(63, 7), join(0, 3), join(63, 6), join(0, 4), join(63, 5)]
        self.told(line, tell_bag(), [3, 0, 7, 6, 63, 2, 0, 0, 3, 4, 0, 2, 0, 0, 6, 5, 63, 3, 0])

    def test_at_most_as_many_as_bag(self):
        line = [begin(2, 5, 64, 2), join(0, 0), join(0, 1), join(0, 0), join(0, 1), retry(1, 0)]
        self.told(line, tell_bag(), [2, 0, 0, 1, 0, 2, 0, 0, 1, 0, 0, 3, 0])

    def test_after_begin_anew(self):
        self.told(ROAMED + [begin()], tell_bag(), [0])

    def test_not_begun(self):
        self.assertEqual(ask(tell_bag()), [[-1]])
        self.assertEqual(ask(begin(0), tell_bag(), begin(), tell_bag()), [[-2], [-1], [0], [0]])


if __name__ == "__main__":
    unittest.main()
