"""retry, give up, deliver, and what each message does at its point."""

import unittest

from roamair import state
from roamair.state import Message
from tests.helper import (
    RefusalTest, accept, after, air, ask, ask_last, bag, begin, deliver, give_up, join, leave, legs, play, power,
    retry, sleep, snapshot, station,
)

# Station 7 has got one of the four frames taken in for it at point 0, and has gone on to point 2.
FRAMES = [accept(0, 7, 50), accept(0, 7, 60), accept(0, 7, 70), accept(0, 7, 80)]
ROAMED = [begin(), join(7, 0)] + FRAMES + [air(0, 7), join(7, 2)]
TAKE = ("take", 0, 2, 7, 2, 1)
GIVE = ("give", 2, 0, 7, 2, 5, ((2, 60), (3, 70), (4, 80)))
HAVE = ("have", 0, 7, 2)
LACK = ("lack", 2, 7, 2)
HELD = (1, ("holds",), 5, ((2, 60), (3, 70), (4, 80)), (), 4)
GIVEN = (1, ("handed", 2), 5, ((2, 60), (3, 70), (4, 80)), (), 4)
WAITING = (2, ("waits", 0, 1), 1, (), (), 0)
CAME = (2, ("holds",), 5, ((2, 60), (3, 70), (4, 80)), (), 0)


class Take(unittest.TestCase):
    def test_the_ground(self):
        world = play(*ROAMED)
        self.assertEqual((bag(world), legs(world, 0, 7), legs(world, 2, 7)), ([TAKE], [HELD], [WAITING]))

    def test_the_leg_holds(self):
        world = play(*ROAMED)
        self.assertEqual(after(world, deliver(0)), [[1]])
        self.assertEqual((bag(world), legs(world, 0, 7), legs(world, 2, 7)), ([GIVE], [GIVEN], [WAITING]))

    def test_frames_up_to_n_are_dropped(self):
        # Two frames were got, but the word for the second was lost.
        line = [begin(), join(7, 0)] + FRAMES + [air(0, 7), air(0, 7, 0, 1), join(7, 2)]
        self.assertEqual(legs(play(*line), 0, 7), [(1, ("holds",), 5, ((2, 60), (3, 70), (4, 80)), (), 4)])
        world = play(*line, deliver(0))
        self.assertEqual(legs(world, 0, 7), [(1, ("handed", 2), 5, ((3, 70), (4, 80)), (), 4)])
        self.assertEqual(bag(world), [("give", 2, 0, 7, 2, 5, ((3, 70), (4, 80)))])

    def test_all_frames_are_dropped(self):
        line = [begin(), join(7, 0), accept(0, 7, 50), air(0, 7, 0, 1), join(7, 2), deliver(0)]
        self.assertEqual(bag(play(*line)), [("give", 2, 0, 7, 2, 2, ())])

    def test_an_empty_queue_is_given_too(self):
        self.assertEqual(bag(play(begin(), join(7, 0), join(7, 2), deliver(0))), [("give", 2, 0, 7, 2, 1, ())])

    def test_no_frame_is_dropped_when_none_was_got(self):
        line = [begin(), join(7, 0), accept(0, 7, 50), air(0, 7, 1, 0), join(7, 2), deliver(0)]
        self.assertEqual(bag(play(*line)), [("give", 2, 0, 7, 2, 2, ((1, 50),))])

    def test_the_leg_is_handed_already(self):
        world = play(*ROAMED, retry(2, 7), deliver(0), deliver(0))
        self.assertEqual((bag(world), legs(world, 0, 7)), ([GIVE, GIVE], [GIVEN]))

    def test_the_leg_waits(self):
        world = play(*ROAMED, join(7, 1))
        before = legs(world, 2, 7)
        self.assertEqual(after(world, deliver(1)), [[1]])
        self.assertEqual((bag(world), legs(world, 2, 7), legs(world, 0, 7)), ([TAKE], before, [HELD]))
        self.assertEqual(legs(world, 1, 7), [(3, ("waits", 2, 1), 1, (), (), 0)])

    def test_no_such_leg(self):
        world = play(*ROAMED, power(0, 0), power(0, 1))
        self.assertEqual(after(world, deliver(0)), [[1]])
        self.assertEqual((bag(world), legs(world, 2, 7)), ([LACK], [WAITING]))

    def test_a_leg_of_another_join_or_station_is_not_it(self):
        line = ROAMED + [power(0, 0), power(0, 1), join(7, 0), join(8, 0), deliver(0)]
        world = play(*line)
        self.assertEqual(bag(world), [("take", 2, 0, 7, 3, 1), LACK])
        self.assertEqual([leg[1][0] for leg in legs(world, 0, 7) + legs(world, 0, 8)], ["waits", "holds"])

    def test_the_leg_is_gone_already(self):
        world = play(*ROAMED, retry(2, 7), deliver(0), deliver(1), deliver(1))
        self.assertEqual((bag(world), legs(world, 0, 7), legs(world, 2, 7)), ([TAKE], [], [CAME]))
        after(world, deliver(0))
        self.assertEqual(bag(world), [LACK])
        self.assertEqual(after(world, deliver(0)), [[0]])
        self.assertEqual((bag(world), legs(world, 2, 7)), ([], [CAME]))

    def test_the_point_is_off(self):
        world = play(*ROAMED, power(0, 0))
        self.assertEqual(after(world, deliver(0)), [[0]])
        self.assertEqual((bag(world), legs(world, 2, 7)), ([], [WAITING]))

    def test_it_is_answered_though_the_asking_leg_is_lost(self):
        world = play(*ROAMED, power(2, 0), deliver(0))
        self.assertEqual((bag(world), legs(world, 0, 7)), ([GIVE], [GIVEN]))


class Give(unittest.TestCase):
    def test_the_leg_waits(self):
        world = play(*ROAMED, deliver(0))
        self.assertEqual(after(world, deliver(0)), [[1]])
        self.assertEqual((bag(world), legs(world, 0, 7), legs(world, 2, 7)), ([HAVE], [GIVEN], [CAME]))

    def test_fresh_frames_stand_behind(self):
        world = play(*ROAMED, accept(2, 7, 90), accept(2, 7, 40), deliver(0), deliver(0))
        queue = ((2, 60), (3, 70), (4, 80), (5, 90), (6, 40))
        self.assertEqual(legs(world, 2, 7), [(2, ("holds",), 7, queue, (), 2)])

    def test_it_comes_twice(self):
        world = play(*ROAMED, deliver(0), retry(0, 7), deliver(0), air(2, 7), accept(2, 7, 9))
        before = legs(world, 2, 7)
        self.assertEqual(before, [(2, ("holds",), 6, ((3, 70), (4, 80), (5, 9)), (), 1)])
        self.assertEqual(after(world, deliver(0)), [[2]])
        self.assertEqual((bag(world), legs(world, 2, 7)), ([HAVE, HAVE], before))

    def test_the_leg_is_handed_on_already(self):
        world = play(*ROAMED, deliver(0), retry(0, 7), deliver(0), join(7, 1), deliver(2))
        before = legs(world, 2, 7)
        self.assertEqual(before[0][1], ("handed", 1))
        after(world, deliver(0))
        self.assertEqual(legs(world, 2, 7), before)
        self.assertEqual(bag(world)[0], HAVE)
        self.assertEqual(bag(world)[2], HAVE)

    def test_no_such_leg_any_more(self):
        world = play(*ROAMED, deliver(0), power(2, 0), power(2, 1))
        self.assertEqual(after(world, deliver(0)), [[1]])
        self.assertEqual((bag(world), legs(world, 2, 7)), ([HAVE], []))

    def test_a_leg_of_another_join_is_not_it(self):
        world = play(*ROAMED, deliver(0), power(2, 0), power(2, 1), join(7, 2), deliver(0))
        self.assertEqual(legs(world, 2, 7), [(3, ("waits", 2, 1), 1, (), (), 0)])
        self.assertEqual(bag(world), [("take", 2, 2, 7, 3, 1), HAVE])

    def test_the_point_is_off(self):
        world = play(*ROAMED, deliver(0), power(2, 0))
        self.assertEqual(after(world, deliver(0)), [[0]])
        self.assertEqual((bag(world), legs(world, 0, 7)), ([], [GIVEN]))

    def test_what_was_given_is_a_copy(self):
        world = play(*ROAMED, deliver(0), retry(0, 7), deliver(0), air(2, 7), accept(2, 7, 9))
        self.assertEqual(bag(world), [GIVE, HAVE])
        self.assertEqual(legs(world, 0, 7), [GIVEN])


class Lack(unittest.TestCase):
    LOST = ROAMED + [power(0, 0), power(0, 1)]

    def test_the_leg_waits(self):
        world = play(*self.LOST, deliver(0))
        self.assertEqual(after(world, deliver(0)), [[0]])
        self.assertEqual(legs(world, 2, 7), [(2, ("holds",), 2, (), (), 0)])

    def test_fresh_frames_get_numbers(self):
        world = play(*self.LOST, accept(2, 7, 90), accept(2, 7, 40), deliver(0), deliver(0))
        self.assertEqual(legs(world, 2, 7), [(2, ("holds",), 4, ((2, 90), (3, 40)), (), 2)])
        self.assertEqual(after(world, air(2, 7), air(2, 7)), [[2, 2], [3, 3]])
        self.assertEqual(station(world, 7)[4], (50, 90, 40))

    def test_it_comes_twice(self):
        world = play(*self.LOST, retry(2, 7), deliver(0), deliver(0), deliver(0), accept(2, 7, 9))
        before = legs(world, 2, 7)
        self.assertEqual(before, [(2, ("holds",), 3, ((2, 9),), (), 1)])
        self.assertEqual(after(world, deliver(0)), [[0]])
        self.assertEqual(legs(world, 2, 7), before)

    def test_the_leg_is_handed(self):
        came = self.LOST + [retry(2, 7), deliver(0), deliver(0), deliver(0)]
        world = play(*came, accept(2, 7, 9), join(7, 1), deliver(1))
        before = legs(world, 2, 7)
        self.assertEqual(before[0][1], ("handed", 1))
        after(world, deliver(0))
        self.assertEqual(legs(world, 2, 7), before)

    def test_no_such_leg(self):
        world = play(*self.LOST, deliver(0), power(2, 0), power(2, 1), join(7, 2))
        self.assertEqual(after(world, deliver(0)), [[1]])
        self.assertEqual(legs(world, 2, 7), [(3, ("waits", 2, 1), 1, (), (), 0)])

    def test_the_point_is_off(self):
        world = play(*self.LOST, deliver(0), power(2, 0))
        self.assertEqual(after(world, deliver(0)), [[0]])
        self.assertEqual(legs(world, 2, 7), [])


class Have(unittest.TestCase):
    BROUGHT = ROAMED + [deliver(0), deliver(0)]

    def test_the_leg_is_handed(self):
        world = play(*self.BROUGHT)
        self.assertEqual(after(world, deliver(0)), [[0]])
        self.assertEqual((legs(world, 0, 7), legs(world, 2, 7)), ([], [CAME]))

    def test_only_this_leg_goes(self):
        world = play(*self.BROUGHT, join(8, 0), join(7, 0), deliver(0))
        self.assertEqual([leg[0] for leg in legs(world, 0, 7) + legs(world, 0, 8)], [3, 1])

    def test_it_comes_twice(self):
        world = play(*self.BROUGHT, retry(0, 7), deliver(1), deliver(0))
        before = (legs(world, 0, 7), legs(world, 2, 7))
        self.assertEqual(before, ([], [CAME]))
        self.assertEqual(after(world, deliver(0)), [[0]])
        self.assertEqual((legs(world, 0, 7), legs(world, 2, 7)), before)

    def test_no_such_leg(self):
        world = play(*self.BROUGHT, power(0, 0), power(0, 1), join(8, 0))
        self.assertEqual(after(world, deliver(0)), [[0]])
        self.assertEqual(legs(world, 0, 8), [(1, ("holds",), 1, (), (), 0)])

    def test_the_point_is_off(self):
        world = play(*self.BROUGHT, power(0, 0))
        self.assertEqual(after(world, deliver(0)), [[0]])
        self.assertEqual(bag(world), [])

    def test_a_leg_that_is_not_handed_stays(self):
        # No line of calls brings a have to such a leg, so it's put on the wire by hand.
        for to_point, join_number in ((0, 2), (2, 3)):
            world = play(*ROAMED, join(7, 1))
            before = [legs(world, p, 7) for p in range(3)]
            world.messages = [Message(state.HAVE, to_point, state.NO_POINT, 7, join_number, 0, [])]
            self.assertEqual(after(world, deliver(0)), [[0]])
            self.assertEqual([legs(world, p, 7) for p in range(3)], before)


class Deliver(RefusalTest):
    def test_the_message_told_is_taken_out(self):
        ground = [begin(), join(0, 0), join(1, 0), join(2, 0), join(0, 1), join(1, 1), join(2, 1)]
        world = play(*ground)
        self.assertEqual(after(world, deliver(1)), [[3]])
        self.assertEqual(
            bag(world), [("take", 0, 1, 0, 2, 0), ("take", 0, 1, 2, 2, 0), ("give", 1, 0, 1, 2, 1, ())])
        self.assertEqual(after(world, deliver(2), deliver(2), deliver(1)), [[3], [2], [2]])

    def test_what_it_puts_finds_the_room_that_it_left(self):
        world = play(begin(2, 5, 5, 1), join(0, 0), join(0, 1))
        self.assertEqual(after(world, deliver(0)), [[1]])
        self.assertEqual(bag(world), [("give", 1, 0, 0, 2, 1, ())])
        self.assertEqual(after(world, deliver(0), deliver(0)), [[1], [0]])

    def test_no_such_message(self):
        self.refused(ROAMED, deliver(1), -2)
        self.refused([begin()], deliver(0), -2)

    def test_to_a_point_that_is_off_then_on(self):
        self.assertEqual(
            ask(*ROAMED, power(0, 0), deliver(0), power(0, 1), retry(2, 7), deliver(0), deliver(0))[-6:],
            [[0], [0], [0], [1], [1], [0]])


class Retry(RefusalTest):
    def test_no_leg(self):
        ground = [begin(), join(1, 0), join(1, 1)]
        world = play(*ground)
        before = snapshot(world)
        self.assertEqual(after(world, retry(0, 0), retry(2, 1)), [[0], [0]])
        self.assertEqual(snapshot(world), before)

    def test_a_leg_that_holds(self):
        self.assertEqual(ask(*ROAMED, retry(0, 7))[-1], [0])
        self.assertEqual(bag(play(*ROAMED, retry(0, 7))), [TAKE])

    def test_a_leg_that_waits(self):
        world = play(*ROAMED)
        self.assertEqual(after(world, retry(2, 7), retry(2, 7)), [[1], [1]])
        self.assertEqual((bag(world), legs(world, 2, 7)), ([TAKE] * 3, [WAITING]))

    def test_the_n_of_then_is_told(self):
        # Join 2 waits at point 2 while the station goes on: by power loss it gets frames at another join.
        line = ROAMED + [join(7, 1), power(2, 0), give_up(1, 7), accept(1, 7, 9), air(1, 7), power(2, 1), join(7, 2)]
        self.assertEqual(ask_last(*line), [4])
        line += [join(7, 0), retry(2, 7)]
        world = play(*line)
        self.assertEqual(bag(world)[-1], ("take", 1, 2, 7, 4, 2))

    def test_an_older_leg_keeps_its_n(self):
        # Join 2 at point 1 waits for point 0. Join 4 there is lost to it through point 2, which lost its power.
        line = [
            begin(), join(0, 0), accept(0, 0, 5), join(0, 1), join(0, 2), power(2, 0), power(2, 1), join(0, 1),
            deliver(2), deliver(2), accept(1, 0, 6), air(1, 0), retry(1, 0),
        ]
        world = play(*line)
        self.assertEqual(station(world, 0)[4], (6,))
        self.assertEqual(
            bag(world), [("take", 0, 1, 0, 2, 0), ("take", 1, 2, 0, 3, 0), ("take", 0, 1, 0, 2, 0)])

    def test_a_leg_that_is_handed(self):
        world = play(*ROAMED, deliver(0))
        self.assertEqual(after(world, retry(0, 7)), [[1]])
        self.assertEqual((bag(world), legs(world, 0, 7)), ([GIVE, GIVE], [GIVEN]))

    def test_all_legs_in_the_order_of_joins(self):
        # At point 0: join 1 is handed, join 2 waits, join 3 waits.
        world = play(begin(), join(0, 0), accept(0, 0, 5), join(0, 0), join(0, 0), deliver(0))
        world.messages = []
        self.assertEqual(after(world, retry(0, 0)), [[3]])
        self.assertEqual(
            bag(world),
            [("give", 0, 0, 0, 2, 2, ((1, 5),)), ("take", 0, 0, 0, 2, 0), ("take", 0, 0, 0, 3, 0)])

    def test_only_this_station_and_point(self):
        world = play(begin(), join(0, 0), join(1, 0), join(0, 1), join(1, 1), join(0, 2), join(1, 2))
        self.assertEqual(after(world, retry(1, 1)), [[1]])
        self.assertEqual(bag(world)[4:], [("take", 0, 1, 1, 2, 0)])

    def test_a_full_bag(self):
        ground = [begin(1, 5, 5, 4), join(0, 0), join(0, 0), join(0, 0)]
        self.assertEqual(ask(*ground, retry(0, 0), retry(0, 0), deliver(1), retry(0, 0))[-4:], [[2], [0], [3], [1]])
        world = play(*ground, deliver(1), retry(0, 0), retry(0, 0))
        self.assertEqual(
            bag(world),
            [("take", 0, 0, 0, 2, 0), ("take", 0, 0, 0, 2, 0), ("take", 0, 0, 0, 3, 0), ("take", 0, 0, 0, 2, 0)])

    def test_the_least_bag(self):
        self.assertEqual(ask(begin(2, 5, 5, 1), join(0, 0), join(0, 1), retry(1, 0))[3], [0])

    def test_the_greatest_bag(self):
        line = [begin(1, 1, 64, 4096)] + [join(0, 0)] * 64 + [retry(0, 0)] * 66
        expected = [[0]] + [[k] for k in range(1, 65)] + [[63]] * 64 + [[1], [0]]
        self.assertEqual(ask(*line), expected)

    def test_the_station_may_have_left_or_sleep(self):
        self.assertEqual(ask_last(*ROAMED, leave(7), retry(2, 7)), [1])
        self.assertEqual(ask_last(*ROAMED, sleep(7), retry(2, 7)), [1])

    def test_the_point_is_off(self):
        self.refused(ROAMED + [power(2, 0)], retry(2, 7), -4)
        self.refused(ROAMED + [power(2, 0)], retry(2, 8), -4)


class GiveUp(RefusalTest):
    def test_the_leg_waits_for_a_point_that_is_off(self):
        world = play(*ROAMED, accept(2, 7, 90), power(0, 0))
        self.assertEqual(after(world, give_up(2, 7)), [[2]])
        self.assertEqual(legs(world, 2, 7), [(2, ("holds",), 3, ((2, 90),), (), 1)])
        self.assertEqual(bag(world), [TAKE])
        self.assertEqual(after(world, air(2, 7)), [[2, 2]])
        self.assertEqual(station(world, 7)[4], (50, 90))

    def test_without_fresh_frames(self):
        world = play(*ROAMED, power(0, 0), give_up(2, 7))
        self.assertEqual(legs(world, 2, 7), [(2, ("holds",), 2, (), (), 0)])

    def test_the_first_in_the_order_of_joins(self):
        # Joins 2 and 4 wait at point 1, for points 0 and 2.
        ground = [begin(), join(0, 0), join(0, 1), join(0, 2), join(0, 1)]
        both = ground + [power(2, 0), power(0, 0)]
        self.assertEqual(ask(*both, give_up(1, 0), give_up(1, 0), give_up(1, 0))[-3:], [[2], [4], [-7]])
        later = ground + [power(2, 0)]
        self.assertEqual(ask(*later, give_up(1, 0), give_up(1, 0))[-2:], [[4], [-7]])
        self.assertEqual([leg[1][0] for leg in legs(play(*later, give_up(1, 0)), 1, 0)], ["waits", "holds"])

    def test_a_give_that_comes_later_is_not_taken(self):
        world = play(*ROAMED, deliver(0), power(0, 0), give_up(2, 7))
        self.assertEqual(after(world, deliver(0)), [[1]])
        self.assertEqual((bag(world), legs(world, 2, 7)), ([HAVE], [(2, ("holds",), 2, (), (), 0)]))

    def test_the_point_is_off(self):
        self.refused(ROAMED + [power(0, 0), power(2, 0)], give_up(2, 7), -4)

    def test_off_is_told_ahead_of_no_leg(self):
        self.refused([begin(), power(0, 0)], give_up(0, 0), -4)

    def test_no_leg(self):
        self.refused([begin(), power(1, 0)], give_up(0, 0), -7)
        self.refused(ROAMED + [power(0, 0)], give_up(2, 8), -7)
        self.refused(ROAMED + [power(0, 0)], give_up(1, 7), -7)

    def test_the_point_it_waits_for_is_on(self):
        self.refused(ROAMED, give_up(2, 7), -7)
        self.refused(ROAMED + [power(0, 0), power(0, 1)], give_up(2, 7), -7)
        self.refused(ROAMED + [power(1, 0)], give_up(2, 7), -7)

    def test_the_leg_holds_or_is_handed(self):
        came = ROAMED + [deliver(0), deliver(0)]
        self.refused(came + [power(0, 0)], give_up(2, 7), -7)
        self.refused(ROAMED + [deliver(0), power(2, 0)], give_up(0, 7), -7)


class PowerLost(unittest.TestCase):
    def test_a_point_between_two_others(self):
        # 0 holds, 1 waits for 0, 2 waits for 1, and 1 loses its power.
        line = [
            begin(), join(0, 0), accept(0, 0, 5), join(0, 1), accept(1, 0, 6), join(0, 2), accept(2, 0, 7),
            power(1, 0), deliver(0), retry(0, 0), deliver(0), deliver(0), give_up(0, 0), give_up(2, 0),
            air(2, 0), air(2, 0), retry(2, 0), power(1, 1), retry(0, 0), deliver(0), deliver(0), retry(0, 0),
        ]
        expected = [
            [0], [1], [1, 1], [2], [2, 1], [3], [3, 1],
            [0], [2], [1], [2], [1], [-7], [3],
            [1, 1], [-9], [0], [0], [1], [2], [2], [1],
        ]
        self.assertEqual(ask(*line), expected)
        self.assertEqual(station(play(*line), 0)[4], (7,))

    def test_retry_until_the_point_is_on_again(self):
        line = ROAMED + [accept(2, 7, 9), power(0, 0), deliver(0), retry(2, 7), deliver(0), power(0, 1), retry(2, 7)]
        line += [deliver(0), deliver(0), air(2, 7), air(2, 7)]
        self.assertEqual(ask(*line)[-9:], [[0], [1], [0], [0], [1], [1], [0], [2, 2], [-9]])
        self.assertEqual(station(play(*line), 7)[4], (50, 9))

    def test_legs_of_several_stations(self):
        line = [begin(2), join(0, 0), join(1, 0), join(0, 1), join(1, 1), power(0, 0), give_up(1, 1), give_up(1, 0)]
        line += [give_up(1, 0), retry(1, 0), retry(1, 1)]
        self.assertEqual(ask(*line)[5:], [[0], [2], [2], [-7], [0], [0]])


if __name__ == "__main__":
    unittest.main()
