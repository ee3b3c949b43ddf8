"""What the tests share: the calls by name, ways to run them, and views of a world."""

import random
import unittest

from roamair.state import GIVE, HANDED, HAVE, LACK, TAKE, WAITS, World
from roamair.world import answer, answers

LEAST = -9223372036854775808
GREATEST = 9223372036854775807


def begin(points=3, room=100, legs=64, bag=100):
    return (0, points, room, legs, bag)


def power(p, on):
    return (1, p, on)


def join(x, p):
    return (2, x, p)


def leave(x):
    return (3, x)


def sleep(x):
    return (4, x)


def wake(x):
    return (5, x)


def accept(p, x, frame):
    return (6, p, x, frame)


def air(p, x, frame_lost=0, word_lost=0):
    return (7, p, x, frame_lost, word_lost)


def retry(p, x):
    return (8, p, x)


def give_up(p, x):
    return (9, p, x)


def deliver(k):
    return (10, k)


def flat(calls):
    return [number for call in calls for number in call]


def split(told, count):
    """The answers of count calls, a list each; an error if what's told doesn't fall apart so."""
    parts = []
    at = 0
    while at < len(told):
        end = at + 1 + told[at]
        parts.append(told[at + 1:end])
        if told[at] < 1 or end > len(told):
            raise AssertionError(f"no answer lies at {at} of {told}")
        at = end
    if len(parts) != count:
        raise AssertionError(f"{len(parts)} answers to {count} calls")
    return parts


def ask(*calls):
    """Runs the calls as one line through the interface; gives a list of their answers."""
    return split(answers(flat(calls)), len(calls))


def ask_last(*calls):
    return ask(*calls)[-1]


def play(*calls):
    """Runs the calls on a new world and gives that world, for a look at what's in it."""
    world = World()
    for call in calls:
        answer(world, call[0], list(call[1:]))
    return world


def after(world, *calls):
    return [answer(world, call[0], list(call[1:])) for call in calls]


def leg_view(leg):
    if leg.state == WAITS:
        how = ("waits", leg.other_point, leg.had_got)
    elif leg.state == HANDED:
        how = ("handed", leg.other_point)
    else:
        how = ("holds",)
    return (leg.join_number, how, leg.next_number, tuple(leg.queue), tuple(leg.fresh), leg.taken_in)


def legs(world, p, x):
    return [leg_view(leg) for leg in world.points[p].legs if leg.station_number == x]


def message_view(message):
    whose = (message.station_number, message.join_number)
    if message.kind == TAKE:
        return ("take", message.to_point, message.from_point) + whose + (message.number,)
    if message.kind == GIVE:
        return ("give", message.to_point, message.from_point) + whose + (message.number, tuple(message.queue))
    return ({LACK: "lack", HAVE: "have"}[message.kind], message.to_point) + whose


def bag(world):
    return [message_view(message) for message in world.messages]


def station(world, x):
    one = world.stations[x]
    return (one.joins, one.point, one.last_point, one.awake, tuple(one.got))


def snapshot(world):
    """All that a world is, as values that can be compared."""
    return (
        world.begun, world.room, world.leg_limit, world.bag_limit,
        [(point.on, [(leg.station_number, leg_view(leg)) for leg in point.legs]) for point in world.points],
        [station(world, x) for x in range(len(world.stations))],
        bag(world),
    )


class RefusalTest(unittest.TestCase):
    def refused(self, ground, call, number):
        """The call is refused by the number alone, and the world is as it was before."""
        world = play(*ground)
        before = snapshot(world)
        self.assertEqual(after(world, call), [[number]], call)
        self.assertEqual(snapshot(world), before)


class Chooser:
    """Makes lines of calls that often go together, the same for the same seed."""

    def __init__(self, seed, with_power):
        self.dice = random.Random(seed)
        self.points = self.dice.randint(1, 4)
        self.stations = self.dice.randint(1, 3)
        self.with_power = with_power
        self.frame = 0

    def begin(self):
        dice = self.dice
        return begin(self.points, dice.choice((2, 6, 1000)), dice.choice((1, 3, 64)), dice.choice((1, 2, 5, 4096)))

    def frame_number(self):
        self.frame += 1
        return self.frame

    def call(self, world):
        dice = self.dice
        p = dice.randrange(self.points)
        x = dice.randrange(self.stations)
        where = world.stations[x].point
        near = where if where >= 0 and dice.random() < 0.9 else p
        calls = [
            (3, lambda: join(x, p)),
            (0.4, lambda: leave(x)),
            (0.3, lambda: sleep(x)),
            (0.6, lambda: wake(x)),
            (5, lambda: accept(dice.choice((p, near)), x, self.frame_number())),
            (5, lambda: air(near, x, int(dice.random() < 0.2), int(dice.random() < 0.3))),
            (2, lambda: retry(p, x)),
            (1, lambda: give_up(p, x)),
            (8, lambda: deliver(dice.randrange(-1 if dice.random() < 0.02 else 0, len(world.messages) + 1))),
            (0.2, lambda: air(p, x, dice.randint(-1, 2), dice.randint(-1, 2))),
        ]
        if self.with_power:
            calls.append((0.7, lambda: power(p, dice.choice((0, 1, 1)))))
            calls.append((0.02, self.begin))
        return dice.choices([make for weight, make in calls], [weight for weight, make in calls])[0]()
