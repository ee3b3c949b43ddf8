"""The promises, and refusals that change nothing, on many lines with every mishap of wire and air."""

import unittest

from roamair.state import HANDED, HOLDS, World
from roamair.world import answer
from tests.helper import Chooser, after, air, ask, bag, flow, legs, questions, retry, snapshot, station

LINES = 300
CALLS = 250
ACCEPT = 6


class Watch:
    """A world under calls, with what was taken in for each station and in which order it stands."""

    def __init__(self, chooser):
        self.world = World()
        self.calls = []
        self.given = []
        self.taken = {}
        self.make(chooser.begin())

    def make(self, call):
        told = answer(self.world, call[0], list(call[1:]))
        self.calls.append(call)
        self.given.append(told)
        if call[0] == ACCEPT and told[0] > 0:
            # The join's number and the count at its leg tell the frame's place in the order.
            self.taken.setdefault(call[2], {})[call[3]] = tuple(told)
        if call[0] == 0 and told == [0]:
            self.taken = {}

    def order_of_got(self, x):
        return [self.taken[x][frame] for frame in self.world.stations[x].got]

    def kept(self, x):
        frames = set()
        for point in self.world.points:
            for leg in point.legs:
                if leg.station_number == x:
                    frames.update(leg.fresh, [entry[1] for entry in leg.queue])
        return frames


def watched(seed, with_power):
    chooser = Chooser(seed, with_power)
    watch = Watch(chooser)
    for step in range(CALLS - 1):
        watch.make(chooser.call(watch.world))
        yield watch


class Promises(unittest.TestCase):
    def check_order(self, watch):
        for x in watch.taken:
            order = watch.order_of_got(x)
            self.assertTrue(all(one < other for one, other in zip(order, order[1:])), (watch.calls, x, order))

    def test_each_frame_at_most_once_and_in_order(self):
        got = 0
        for seed in range(LINES):
            for watch in watched(seed, True):
                self.check_order(watch)
            got += sum(len(one.got) for one in watch.world.stations)
        self.assertGreater(got, LINES)

    def test_nothing_is_lost_while_no_point_loses_its_power(self):
        got = 0
        for seed in range(LINES):
            for watch in watched(seed, False):
                self.check_order(watch)
                for x, taken in watch.taken.items():
                    self.assertEqual(
                        watch.kept(x) | set(watch.world.stations[x].got), set(taken), (watch.calls, x))
            got += sum(len(one.got) for one in watch.world.stations)
        self.assertGreater(got, LINES)

    def test_both_as_asked(self):
        for seed in range(LINES):
            for watch in watched(seed, False):
                pass
            for x, taken in watch.taken.items():
                got = station(watch.world, x)[4]
                self.assertEqual(len(got), len(set(got)))
                kept = set()
                for p in range(len(watch.world.points)):
                    for leg in legs(watch.world, p, x):
                        kept.update(leg[4], [frame for number, frame in leg[3]])
                self.assertEqual(kept | set(got), set(taken), (watch.calls, x))

    def test_all_comes_to_the_station_in_the_end(self):
        for seed in range(LINES):
            for watch in watched(seed, False):
                pass
            self.settle(watch.world)
            for x, taken in watch.taken.items():
                self.assertEqual(watch.world.stations[x].got, sorted(taken, key=taken.get), (watch.calls, x))

    def settle(self, world):
        """Brings every message, asks again for what's lost, and sends all to stations that are awake."""
        unsettled = True
        while unsettled:
            for p in range(len(world.points)):
                for x in range(3):
                    after(world, flow(10000), retry(p, x))
            after(world, flow(10000))
            unsettled = [leg for point in world.points for leg in point.legs if leg.state != HOLDS]
        self.assertEqual(bag(world), [])
        for x in range(3):
            one = world.stations[x]
            if one.joins > 0:
                one.point = one.last_point
                one.awake = True
                while after(world, air(one.point, x)) != [[-9]]:
                    pass

    def test_a_join_has_at_most_one_leg(self):
        for seed in range(LINES):
            for watch in watched(seed, True):
                pass
            joins = [(leg.station_number, leg.join_number) for point in watch.world.points for leg in point.legs]
            self.assertEqual(len(joins), len(set(joins)))

    def test_handed_legs_take_nothing_in(self):
        for seed in range(LINES):
            for watch in watched(seed, True):
                for point in watch.world.points:
                    self.assertEqual([leg.fresh for leg in point.legs if leg.state == HANDED and leg.fresh], [])


class Refusals(unittest.TestCase):
    def test_the_world_is_as_it_was(self):
        for seed in range(40):
            chooser = Chooser(seed, True)
            watch = Watch(chooser)
            for step in range(CALLS - 1):
                before = snapshot(watch.world)
                watch.make(chooser.call(watch.world))
                if watch.given[-1][0] < 0:
                    self.assertEqual(len(watch.given[-1]), 1)
                    self.assertEqual(snapshot(watch.world), before, watch.calls)

    def test_the_line_without_the_refused_calls_is_answered_alike(self):
        refused = {}
        for seed in range(LINES):
            for watch in watched(seed, True):
                pass
            given = ask(*watch.calls)
            self.assertEqual(given, watch.given)
            kept = [(call, told) for call, told in zip(watch.calls, given) if told[0] >= 0]
            self.assertEqual(ask(*[call for call, told in kept]), [told for call, told in kept])
            for told in given:
                refused[told[0]] = True
        # Every refusal has been met but -1.
        self.assertEqual([number for number in range(-10, -1) if number not in refused], [])

    def test_asking_changes_nothing(self):
        for seed in range(40):
            for watch in watched(seed, True):
                pass
            before = snapshot(watch.world)
            asked = questions(len(watch.world.points), range(64))
            first = after(watch.world, *asked)
            self.assertEqual(snapshot(watch.world), before)
            self.assertEqual(after(watch.world, *asked), first)


if __name__ == "__main__":
    unittest.main()
