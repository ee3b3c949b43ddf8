"""What the tests share: the calls by name, ways to run them, and views of a world."""

import random
import unittest

from roamair.state import World
from roamair.world import answer, answers

LEAST = -9223372036854775808
GREATEST = 9223372036854775807


def begin(points=3, room=100, legs=64, bag=100):
    return (0, points, room, legs, bag)


def power(p, on):
    return (1, p, on)


def join(x, p):
    return (2, x, p)


def leave(x):
    return (3, x)


def sleep(x):
    return (4, x)


def wake(x):
    return (5, x)


def accept(p, x, frame):
    return (6, p, x, frame)


def air(p, x, frame_lost=0, word_lost=0):
    return (7, p, x, frame_lost, word_lost)


def retry(p, x):
    return (8, p, x)


def give_up(p, x):
    return (9, p, x)


def deliver(k):
    return (10, k)


def lose(k):
    return (11, k)


def double(k):
    return (12, k)


def flow(m):
    return (13, m)


def tell_station(x):
    return (14, x)


def tell_got(x):
    return (15, x)


def tell_legs(p, x):
    return (16, p, x)


def tell_beacon(p):
    return (17, p)


def tell_bag():
    return (18,)


def hears(p, q, weight):
    return (19, p, q, weight)


def channels(c):
    return (20, c)


def flat(calls):
    return [number for call in calls for number in call]


def split(told, count):
    """The answers of count calls, a list each; an error if what's told doesn't fall apart so."""
    parts = []
    at = 0
    while at < len(told):
        end = at + 1 + told[at]
        parts.append(told[at + 1:end])
        if told[at] < 1 or end > len(told):
            raise AssertionError(f"no answer lies at {at} of {told}")
        at = end
    if len(parts) != count:
        raise AssertionError(f"{len(parts)} answers to {count} calls")
    return parts


def ask(*calls):
    """Runs the calls as one line through the interface; gives a list of their answers."""
    return split(answers(flat(calls)), len(calls))


def ask_last(*calls):
    return ask(*calls)[-1]


def play(*calls):
    """Runs the calls on a new world and gives that world, for a look at what's in it."""
    world = World()
    for call in calls:
        answer(world, call[0], list(call[1:]))
    return world


def after(world, *calls):
    return [answer(world, call[0], list(call[1:])) for call in calls]


class Reader:
    """Reads an answer number by number; an error if it's too short or too long."""

    def __init__(self, numbers):
        self.left = list(numbers)

    def number(self):
        return self.left.pop(0)

    def queue(self):
        return tuple((self.number(), self.number()) for k in range(self.number()))

    def rows(self, read_row):
        rows = [read_row(self) for k in range(self.number())]
        if self.left:
            raise AssertionError(f"{self.left} is told behind the last row")
        return rows


def read_leg(reader):
    join_number = reader.number()
    state = (reader.number(), reader.number(), reader.number())
    if state[0] == 0:
        how = ("waits",) + state[1:]
    elif state[0] == 2 and state[2] == 0:
        how = ("handed", state[1])
    elif state == (1, 0, 0):
        how = ("holds",)
    else:
        raise AssertionError(f"no leg is {state}")
    next_number, queue = reader.number(), reader.queue()
    fresh = tuple(reader.number() for k in range(reader.number()))
    return (join_number, how, next_number, queue, fresh, reader.number())


def read_message(reader):
    kind, count = {0: ("take", 5), 1: ("give", 5), 2: ("lack", 3), 3: ("have", 3)}[reader.number()]
    message = (kind,) + tuple(reader.number() for k in range(count))
    return message + (reader.queue(),) if kind == "give" else message


def legs(world, p, x):
    return Reader(after(world, tell_legs(p, x))[0]).rows(read_leg)


def bag(world):
    return Reader(after(world, tell_bag())[0]).rows(read_message)


def station(world, x):
    told, got = after(world, tell_station(x), tell_got(x))
    if told[2] not in (0, 1) or told[3] != got[0] or len(got) != got[0] + 1:
        raise AssertionError(f"{told} and {got} don't fit together")
    # Where it joined last is the one thing that no call tells.
    return (told[0], told[1], world.stations[x].last_point, told[2] == 1, tuple(got[1:]))


def snapshot(thing):
    """All that a world is, as values that can be compared."""
    if isinstance(thing, (list, tuple)):
        return [snapshot(part) for part in thing]
    if hasattr(thing, "__dict__"):
        return {name: snapshot(value) for name, value in vars(thing).items()}
    return thing


def questions(points, stations):
    """Calls that tell all that can be asked of these stations at so many points."""
    calls = [make(x) for make in (tell_station, tell_got) for x in stations]
    calls += [tell_legs(p, x) for p in range(points) for x in stations]
    calls += [tell_beacon(p) for p in range(points)]
    return calls + [tell_bag()] + [channels(c) for c in range(1, 5)]


def questions_after(calls):
    """The questions that fit a line of calls, by its last begin and the stations that join."""
    points = [call[1] for call in calls if call[0] == 0 and 1 <= call[1] <= 8][-1]
    return questions(points, sorted({0} | {call[1] for call in calls if call[0] == 2}))


class RefusalTest(unittest.TestCase):
    def refused(self, ground, call, number):
        """The call is refused by the number alone, and the world is as it was before."""
        world = play(*ground)
        before = snapshot(world)
        self.assertEqual(after(world, call), [[number]], call)
        self.assertEqual(snapshot(world), before)
        self.refused_as_asked(ground, call, number)

    def refused_as_asked(self, ground, call, number):
        """The same, seen through the interface alone: what's asked then is answered as without the call."""
        asked = questions_after(ground)
        self.assertLess(len(ground) + len(asked), 250)
        before = ask(*ground, *asked)[len(ground):]
        self.assertEqual(ask(*ground, call, *asked)[len(ground):], [[number]] + before)


class Chooser:
    """Makes lines of calls that often go together, the same for the same seed."""

    def __init__(self, seed, with_power):
        self.dice = random.Random(seed)
        self.points = self.dice.randint(1, 4)
        self.stations = self.dice.randint(1, 3)
        self.with_power = with_power
        self.frame = 0
        self.bags = 0

    def begin(self):
        dice = self.dice
        return begin(self.points, dice.choice((2, 6, 1000)), dice.choice((1, 3, 64)), dice.choice((1, 2, 5, 4096)))

    def message(self, world):
        """The number of a message, now and then one that's out of range."""
        return self.dice.randrange(-1 if self.dice.random() < 0.02 else 0, len(world.messages) + 1)

    def frame_number(self):
        self.frame += 1
        return self.frame

    def bag(self):
        """Asks for the bag; of such calls a line may have 30."""
        self.bags += 1
        return tell_bag() if self.bags <= 30 else flow(1)

    def call(self, world):
        dice = self.dice
        p = dice.randrange(self.points)
        x = dice.randrange(self.stations)
        where = world.stations[x].point
        near = where if where >= 0 and dice.random() < 0.9 else p
        calls = [
            (3, lambda: join(x, p)),
            (0.4, lambda: leave(x)),
            (0.3, lambda: sleep(x)),
            (0.6, lambda: wake(x)),
            (5, lambda: accept(dice.choice((p, near)), x, self.frame_number())),
            (5, lambda: air(near, x, int(dice.random() < 0.2), int(dice.random() < 0.3))),
            (2, lambda: retry(p, x)),
            (1, lambda: give_up(p, x)),
            (8, lambda: deliver(self.message(world))),
            (0.2, lambda: air(p, x, dice.randint(-1, 2), dice.randint(-1, 2))),
            (0.7, lambda: lose(self.message(world))),
            (1, lambda: double(self.message(world))),
            (0.7, lambda: flow(dice.choice((-1, 0, 1, 2, 3, 5, 10000, 10001)))),
            (0.2, lambda: tell_station(x)),
            (0.3, lambda: tell_got(x)),
            (0.6, lambda: tell_legs(dice.choice((p, near)), x)),
            (0.5, lambda: tell_beacon(dice.choice((p, near)))),
            (0.5, self.bag),
            (0.5, lambda: hears(p, dice.randrange(self.points), dice.choice((0, 1, 2, 2, 3, 1000000)))),
            (0.3, lambda: channels(dice.randint(1, 4))),
        ]
        if self.with_power:
            calls.append((0.7, lambda: power(p, dice.choice((0, 1, 1)))))
            calls.append((0.02, self.begin))
        return dice.choices([make for weight, make in calls], [weight for weight, make in calls])[0]()
