"""lose, double and flow: what may happen to messages on the wire, besides that they come one by one."""

import unittest

from tests.helper import (
    RefusalTest, accept, after, air, ask, ask_last, bag, begin, deliver, double, flow, join, legs, lose, play, power,
    retry, snapshot, station, tell_bag, tell_got, tell_legs,
)

# Three takes on the wire, of stations 0, 1 and 2.
THREE = [begin(2, 9, 9, 4), join(0, 0), join(1, 0), join(2, 0), join(0, 1), join(1, 1), join(2, 1)]
TAKES = [("take", 0, 1, x, 2, 0) for x in range(3)]

# Station 7 has got one of the two frames taken in for it at point 0, and has gone on to point 1.
ROAMED = [begin(), join(7, 0), accept(0, 7, 50), accept(0, 7, 60), air(0, 7), join(7, 1), accept(1, 7, 70)]
TAKE = ("take", 0, 1, 7, 2, 1)
GIVE = ("give", 1, 0, 7, 2, 3, ((2, 60),))
HAVE = ("have", 0, 7, 2)
LACK = ("lack", 1, 7, 2)
CAME = (2, ("holds",), 4, ((2, 60), (3, 70)), (), 1)
CAME_WITHOUT = (2, ("holds",), 3, ((2, 70),), (), 1)


class Lose(RefusalTest):
    def test_the_first_a_middle_and_the_last(self):
        for k in range(3):
            world = play(*THREE)
            self.assertEqual(after(world, lose(k)), [[0]])
            self.assertEqual(bag(world), TAKES[:k] + TAKES[k + 1:])

    def test_nothing_is_brought(self):
        for k in range(3):
            world = play(*THREE, lose(k))
            for x in range(3):
                self.assertEqual(legs(world, 0, x), [(1, ("holds",), 1, (), (), 0)])
                self.assertEqual(legs(world, 1, x), [(2, ("waits", 0, 0), 1, (), (), 0)])

    def test_it_changes_only_the_messages(self):
        before = snapshot(play(*ROAMED))
        later = snapshot(play(*ROAMED, lose(0)))
        self.assertEqual((len(before.pop("messages")), later.pop("messages")), (1, []))
        self.assertEqual(later, before)

    def test_to_a_point_that_is_off(self):
        self.assertEqual(
            ask(*THREE, power(0, 0), lose(1), tell_bag())[-2:], [[0], [2, 0, 0, 1, 0, 2, 0, 0, 0, 1, 2, 2, 0]])

    def test_of_each_kind(self):
        for line, message in (
            (ROAMED, TAKE),
            (ROAMED + [deliver(0)], GIVE),
            (ROAMED + [deliver(0), deliver(0)], HAVE),
            (ROAMED + [power(0, 0), power(0, 1), deliver(0)], LACK),
        ):
            world = play(*line)
            self.assertEqual(bag(world), [message])
            self.assertEqual(after(world, lose(0)), [[0]])
            self.assertEqual(bag(world), [])

    def test_until_there_are_none(self):
        self.assertEqual(ask(*THREE, lose(2), lose(0), lose(0), lose(0))[-4:], [[0], [0], [0], [-2]])

    def test_it_makes_room(self):
        line = THREE + [double(0), double(0), lose(1), double(2)]
        self.assertEqual(ask(*line)[-4:], [[0], [-10], [0], [0]])
        self.assertEqual(bag(play(*line)), [TAKES[0], TAKES[2], TAKES[0], TAKES[0]])

    def test_what_is_lost_is_asked_for_again(self):
        # The take, the give and the have are lost once each.
        line = ROAMED + [lose(0), retry(1, 7), deliver(0), lose(0), retry(0, 7), deliver(0), lose(0)]
        world = play(*line)
        self.assertEqual((bag(world), legs(world, 1, 7)), ([], [CAME]))
        self.assertEqual(legs(world, 0, 7), [(1, ("handed", 1), 3, ((2, 60),), (), 2)])
        self.assertEqual(after(world, retry(0, 7), flow(9)), [[1], [2]])
        self.assertEqual((legs(world, 0, 7), legs(world, 1, 7)), ([], [CAME]))

    def test_no_such_message(self):
        self.refused(THREE, lose(3), -2)
        self.refused(THREE, lose(-1), -2)
        self.refused([begin()], lose(0), -2)

    def test_not_begun(self):
        self.assertEqual(ask(lose(0), lose(-1)), [[-1], [-1]])


class Double(RefusalTest):
    def test_each_is_put_behind_the_others(self):
        for k in range(3):
            world = play(*THREE)
            self.assertEqual(after(world, double(k)), [[0]])
            self.assertEqual(bag(world), TAKES + [TAKES[k]])

    def test_it_changes_only_the_messages(self):
        before = snapshot(play(*ROAMED, deliver(0)))
        later = snapshot(play(*ROAMED, deliver(0), double(0)))
        self.assertEqual(later.pop("messages"), before.pop("messages") * 2)
        self.assertEqual(later, before)

    def test_up_to_a_full_bag(self):
        self.assertEqual(ask(begin(2, 9, 9, 3), join(0, 0), join(0, 1), double(0), double(1), double(2))[3:],
                         [[0], [0], [-10]])

    def test_the_bag_is_full(self):
        full = THREE + [double(1)]
        for k in range(4):
            self.refused(full, double(k), -10)
        self.refused([begin(2, 9, 9, 1), join(0, 0), join(0, 1)], double(0), -10)

    def test_the_greatest_bag(self):
        line = [begin(1, 1, 64, 4096)] + [join(0, 0)] * 64 + [retry(0, 0)] * 64
        self.assertEqual(ask(*line, double(4094), double(4095), lose(0), double(4094), flow(1), double(0))[-6:],
                         [[0], [-10], [0], [0], [1], [0]])

    def test_no_such_message_is_told_ahead_of_a_full_bag(self):
        full = THREE + [double(1)]
        self.refused(full, double(4), -2)
        self.refused(full, double(-1), -2)

    def test_no_such_message(self):
        self.refused(THREE, double(3), -2)
        self.refused([begin()], double(0), -2)

    def test_not_begun(self):
        self.assertEqual(ask(double(0), double(-1)), [[-1], [-1]])

    def test_a_take(self):
        # The second comes to a leg that's handed already.
        world = play(*ROAMED, double(0))
        self.assertEqual(bag(world), [TAKE, TAKE])
        self.assertEqual(after(world, deliver(0), deliver(0)), [[2], [2]])
        self.assertEqual(bag(world), [GIVE, GIVE])
        self.assertEqual(legs(world, 0, 7), [(1, ("handed", 1), 3, ((2, 60),), (), 2)])

    def test_a_take_that_comes_when_all_is_over(self):
        # The leg that it asks is gone, so lack is put; the leg that asked holds already.
        world = play(*ROAMED, double(0), deliver(0), deliver(1), deliver(1))
        self.assertEqual((bag(world), legs(world, 0, 7), legs(world, 1, 7)), ([TAKE], [], [CAME]))
        self.assertEqual(after(world, deliver(0)), [[1]])
        self.assertEqual(bag(world), [LACK])
        self.assertEqual(after(world, deliver(0)), [[0]])
        self.assertEqual(legs(world, 1, 7), [CAME])

    def test_a_give(self):
        world = play(*ROAMED, deliver(0), double(0))
        self.assertEqual(bag(world), [GIVE, GIVE])
        self.assertEqual(after(world, deliver(0), air(1, 7)), [[2], [2, 2]])
        came = legs(world, 1, 7)
        self.assertEqual(came, [(2, ("holds",), 4, ((3, 70),), (), 1)])
        self.assertEqual(bag(world), [GIVE, HAVE])
        self.assertEqual(after(world, deliver(0)), [[2]])
        self.assertEqual((bag(world), legs(world, 1, 7)), ([HAVE, HAVE], came))

    def test_a_give_that_comes_when_the_leg_is_handed_on(self):
        world = play(*ROAMED, deliver(0), double(0), deliver(0), join(7, 2), deliver(2))
        before = legs(world, 1, 7)
        self.assertEqual(before, [(2, ("handed", 2), 4, ((2, 60), (3, 70)), (), 1)])
        after(world, deliver(0))
        self.assertEqual(legs(world, 1, 7), before)
        self.assertEqual(bag(world), [HAVE, ("give", 2, 1, 7, 3, 4, ((2, 60), (3, 70))), HAVE])

    def test_a_have(self):
        world = play(*ROAMED, deliver(0), deliver(0), double(0))
        self.assertEqual(bag(world), [HAVE, HAVE])
        self.assertEqual(after(world, deliver(0)), [[1]])
        self.assertEqual(legs(world, 0, 7), [])
        self.assertEqual(after(world, deliver(0)), [[0]])
        self.assertEqual((legs(world, 0, 7), legs(world, 1, 7)), ([], [CAME]))

    def test_a_have_that_comes_when_the_station_is_back(self):
        world = play(*ROAMED, deliver(0), deliver(0), double(0), deliver(0), join(7, 0), deliver(1), deliver(1))
        back = [(3, ("holds",), 4, ((2, 60), (3, 70)), (), 0)]
        self.assertEqual(legs(world, 0, 7), back)
        after(world, deliver(0))
        self.assertEqual(legs(world, 0, 7), back)

    def test_a_lack(self):
        world = play(*ROAMED, power(0, 0), power(0, 1), deliver(0), double(0))
        self.assertEqual(bag(world), [LACK, LACK])
        self.assertEqual(after(world, deliver(0), accept(1, 7, 80)), [[1], [2, 2]])
        came = [(2, ("holds",), 4, ((2, 70), (3, 80)), (), 2)]
        self.assertEqual(legs(world, 1, 7), came)
        self.assertEqual(after(world, deliver(0)), [[0]])
        self.assertEqual(legs(world, 1, 7), came)

    def test_one_of_a_double_is_lost(self):
        for k in range(2):
            world = play(*ROAMED, double(0), lose(k), deliver(0), double(0), lose(k), deliver(0))
            self.assertEqual((bag(world), legs(world, 1, 7)), ([HAVE], [CAME]))


class Flow(RefusalTest):
    def test_none(self):
        self.assertEqual(ask(begin(), flow(0), flow(1), flow(10000)), [[0]] * 4)

    def test_of_0(self):
        world = play(*THREE)
        before = snapshot(world)
        self.assertEqual(after(world, flow(0)), [[0]])
        self.assertEqual(snapshot(world), before)

    def test_of_fewer_than_there_are(self):
        world = play(*THREE)
        self.assertEqual(after(world, flow(2)), [[2]])
        gives = [("give", 1, 0, x, 2, 1, ()) for x in range(3)]
        self.assertEqual(bag(world), [TAKES[2]] + gives[:2])
        self.assertEqual(after(world, flow(1)), [[1]])
        self.assertEqual(bag(world), gives)

    def test_of_as_many_as_there_are(self):
        self.assertEqual(ask(*THREE, power(0, 0), flow(3), tell_bag())[-2:], [[3], [0]])

    def test_of_more_than_there_are(self):
        self.assertEqual(ask(*THREE, power(0, 0), flow(4), tell_bag())[-2:], [[3], [0]])
        self.assertEqual(ask(*THREE, power(0, 0), flow(10000), tell_bag())[-2:], [[3], [0]])

    def test_messages_are_put_as_others_are_brought(self):
        # Each take puts a give, and each give a have.
        world = play(*THREE)
        self.assertEqual(after(world, flow(10000)), [[9]])
        self.assertEqual(bag(world), [])
        for x in range(3):
            self.assertEqual((legs(world, 0, x), legs(world, 1, x)), ([], [(2, ("holds",), 1, (), (), 0)]))

    def test_it_ends_among_those_that_were_put(self):
        world = play(*THREE)
        self.assertEqual(after(world, flow(7)), [[7]])
        self.assertEqual(bag(world), [("have", 0, x, 2) for x in (1, 2)])

    def test_it_is_as_many_delivers_of_message_0(self):
        for line in (THREE, ROAMED, ROAMED + [power(0, 0), power(0, 1)], THREE + [power(1, 0), double(0)]):
            for m in range(12):
                by_flow, one_by_one = play(*line), play(*line)
                times = after(by_flow, flow(m))[0][0]
                brought = [told for told in after(one_by_one, *[deliver(0)] * m) if told != [-2]]
                self.assertEqual(times, len(brought))
                self.assertEqual(snapshot(by_flow), snapshot(one_by_one))

    def test_a_full_bag(self):
        # What's brought is out ahead of what it puts, so nothing is lost.
        self.assertEqual(ask(begin(2, 9, 9, 1), join(0, 0), join(0, 1), flow(5))[-1], [3])

    def test_lack(self):
        world = play(*ROAMED, power(0, 0), power(0, 1))
        self.assertEqual(after(world, flow(5)), [[2]])
        self.assertEqual((bag(world), legs(world, 1, 7)), ([], [CAME_WITHOUT]))

    def test_to_a_point_that_is_off(self):
        world = play(*ROAMED, power(0, 0))
        self.assertEqual(after(world, flow(5)), [[1]])
        self.assertEqual((bag(world), legs(world, 1, 7)), ([], [(2, ("waits", 0, 1), 1, (), (70,), 1)]))

    def test_a_chain_of_joins(self):
        # The take of join 3 comes ahead of what join 2 waits for: it's told again by retry.
        line = [begin(), join(0, 0), accept(0, 0, 5), join(0, 1), accept(1, 0, 6), join(0, 2), accept(2, 0, 7)]
        line += [flow(10000), tell_legs(2, 0), retry(2, 0), flow(10000), tell_legs(2, 0)]
        self.assertEqual(ask(*line)[-5:], [
            [4], [1, 3, 0, 1, 0, 1, 0, 1, 7, 1], [1], [3], [1, 3, 1, 0, 0, 4, 3, 1, 5, 2, 6, 3, 7, 0, 1]])

    def test_all_is_got_in_order(self):
        line = ROAMED + [flow(10000), air(1, 7), air(1, 7), air(1, 7), tell_got(7)]
        self.assertEqual(ask(*line)[-5:], [[3], [2, 2], [3, 3], [-9], [3, 50, 60, 70]])
        self.assertEqual(station(play(*line), 7), (2, 1, 1, True, (50, 60, 70)))

    def test_out_of_range(self):
        self.refused(THREE, flow(-1), -2)
        self.refused(THREE, flow(10001), -2)
        self.refused([begin()], flow(10001), -2)

    def test_not_begun(self):
        self.assertEqual(ask(flow(0), flow(-1), flow(10001)), [[-1]] * 3)

    def test_messages_of_a_world_before_are_gone(self):
        self.assertEqual(ask_last(*THREE, begin(2), flow(10000)), [0])


if __name__ == "__main__":
    unittest.main()
