"""The program beside a second writing of the document's sentences, on many lines."""

import itertools
import unittest

from roamair.state import World
from roamair.world import answer
from tests.helper import Chooser, ask, questions

NAMES = (
    "begin", "power", "join", "leave", "sleep", "wake", "accept", "air", "retry", "give_up", "deliver", "lose",
    "double", "flow", "tell_station", "tell_got", "tell_legs", "tell_beacon", "tell_bag", "hears", "channels",
)


class Refused(Exception):
    pass


def need(condition, number):
    if not condition:
        raise Refused(number)


class Model:
    """One world, kept as flat dicts: legs by (p, x, j), messages as tuples."""

    def __init__(self):
        self.begun = False
        self.points = 0
        self.messages = []

    def ask(self, place, *numbers):
        try:
            need(self.begun or place == 0, -1)
            return getattr(self, NAMES[place])(*numbers)
        except Refused as refusal:
            return [refusal.args[0]]

    def between(self, *triples):
        need(all(low <= number <= high for number, low, high in triples), -2)

    def begin(self, points, room, legs, bag):
        self.between((points, 1, 8), (room, 1, 1000), (legs, 1, 64), (bag, 1, 4096))
        self.begun, self.points, self.room, self.legs_told, self.bag_told = True, points, room, legs, bag
        self.off = set()
        self.legs = {}
        self.messages = []
        self.pairs = {}
        self.joins = [0] * 64
        self.where = [None] * 64
        self.last = [None] * 64
        self.asleep = set()
        self.got = [[] for x in range(64)]
        return [0]

    def put(self, *message):
        found = len(self.messages) < self.bag_told
        if found:
            self.messages.append(message)
        return found

    def of(self, p, x):
        return sorted(key for key in self.legs if key[0] == p and key[1] == x)

    def hold(self, leg, queue, number):
        frames = leg["fresh"]
        leg["how"] = "holds"
        leg["queue"] = dict(queue) | {number + k: frame for k, frame in enumerate(frames)}
        leg["next"] = number + len(frames)
        leg["fresh"] = []

    def power(self, p, on):
        self.between((p, 0, self.points - 1), (on, 0, 1))
        need((p in self.off) == (on == 1), -3)
        if on:
            self.off.remove(p)
        else:
            self.off.add(p)
            self.legs = {key: leg for key, leg in self.legs.items() if key[0] != p}
        return [0]

    def join(self, x, p):
        self.between((x, 0, 63), (p, 0, self.points - 1))
        need(p not in self.off, -4)
        need(sum(key[0] == p for key in self.legs) < self.legs_told, -5)
        before, n = self.last[x], len(self.got[x])
        self.joins[x] += 1
        j = self.joins[x]
        self.where[x] = self.last[x] = p
        self.asleep.discard(x)
        how = "holds" if j == 1 else "waits"
        self.legs[p, x, j] = {"how": how, "q": before, "n": n, "queue": {}, "next": 1, "fresh": [], "in": 0}
        if j > 1:
            self.put("take", before, p, x, j, n)
        return [j]

    def leave(self, x):
        self.between((x, 0, 63))
        need(self.where[x] is not None, -6)
        self.where[x] = None
        return [0]

    def sleep(self, x):
        self.between((x, 0, 63))
        need(self.where[x] is not None and x not in self.asleep, -6)
        self.asleep.add(x)
        return [0]

    def wake(self, x):
        self.between((x, 0, 63))
        need(self.where[x] is not None and x in self.asleep, -6)
        self.asleep.remove(x)
        return [0]

    def accept(self, p, x, frame):
        self.between((p, 0, self.points - 1), (x, 0, 63), (frame, 0, 2 ** 32 - 1))
        need(p not in self.off, -4)
        taking = [key for key in self.of(p, x) if self.legs[key]["how"] != "handed"]
        need(taking, -7)
        kept = [len(leg["queue"]) + len(leg["fresh"]) for key, leg in self.legs.items() if key[0] == p]
        need(sum(kept) < self.room, -8)
        leg = self.legs[taking[-1]]
        leg["in"] += 1
        if leg["how"] == "waits":
            leg["fresh"].append(frame)
        else:
            leg["queue"][leg["next"]] = frame
            leg["next"] += 1
        return [taking[-1][2], leg["in"]]

    def air(self, p, x, frame_lost, word_lost):
        self.between((p, 0, self.points - 1), (x, 0, 63), (frame_lost, 0, 1), (word_lost, 0, 1))
        need(p not in self.off, -4)
        need(self.where[x] == p and x not in self.asleep, -6)
        leg = self.legs.get((p, x, self.joins[x]))
        need(leg and leg["how"] == "holds", -7)
        need(leg["queue"], -9)
        number = min(leg["queue"])
        if not frame_lost and number == len(self.got[x]) + 1:
            self.got[x].append(leg["queue"][number])
        if not frame_lost and not word_lost:
            leg["queue"] = {k: frame for k, frame in leg["queue"].items() if k > len(self.got[x])}
        return [number, len(self.got[x])]

    def give(self, p, q, x, j):
        leg = self.legs[q, x, j - 1]
        return self.put("give", p, q, x, j, leg["next"], sorted(leg["queue"].items()))

    def retry(self, p, x):
        self.between((p, 0, self.points - 1), (x, 0, 63))
        need(p not in self.off, -4)
        found = 0
        for key in self.of(p, x):
            leg = self.legs[key]
            if leg["how"] == "waits":
                found += self.put("take", leg["q"], p, x, key[2], leg["n"])
            if leg["how"] == "handed":
                found += self.give(leg["q"], p, x, key[2] + 1)
        return [found]

    def give_up(self, p, x):
        self.between((p, 0, self.points - 1), (x, 0, 63))
        need(p not in self.off, -4)
        waiting = [key for key in self.of(p, x) if self.legs[key]["how"] == "waits"]
        lost = [key for key in waiting if self.legs[key]["q"] in self.off]
        need(lost, -7)
        self.hold(self.legs[lost[0]], {}, self.legs[lost[0]]["n"] + 1)
        return [lost[0][2]]

    def bring(self, message):
        if message[1] not in self.off:
            getattr(self, "bring_" + message[0])(*message[1:])

    def deliver(self, k):
        self.between((k, 0, len(self.messages) - 1))
        self.bring(self.messages.pop(k))
        return [len(self.messages)]

    def bring_take(self, q, p, x, j, n):
        leg = self.legs.get((q, x, j - 1))
        if not leg:
            self.put("lack", p, x, j)
        elif leg["how"] == "handed":
            self.give(p, q, x, j)
        elif leg["how"] == "holds":
            leg["how"] = "handed"
            leg["q"] = p
            leg["queue"] = {k: frame for k, frame in leg["queue"].items() if k > n}
            self.give(p, q, x, j)

    def bring_give(self, p, q, x, j, number, queue):
        leg = self.legs.get((p, x, j))
        if leg and leg["how"] == "waits":
            self.hold(leg, queue, number)
        self.put("have", q, x, j)

    def bring_lack(self, p, x, j):
        leg = self.legs.get((p, x, j))
        if leg and leg["how"] == "waits":
            self.hold(leg, {}, leg["n"] + 1)

    def bring_have(self, q, x, j):
        leg = self.legs.get((q, x, j - 1))
        if leg and leg["how"] == "handed":
            del self.legs[q, x, j - 1]


    def lose(self, k):
        self.between((k, 0, len(self.messages) - 1))
        self.messages = self.messages[:k] + self.messages[k + 1:]
        return [0]

    def double(self, k):
        self.between((k, 0, len(self.messages) - 1))
        need(len(self.messages) != self.bag_told, -10)
        self.messages = self.messages + [self.messages[k]]
        return [0]

    def flow(self, m):
        self.between((m, 0, 10000))
        for times in range(m):
            if not self.messages:
                return [times]
            self.bring(self.messages.pop(0))
        return [m]

    def tell_station(self, x):
        self.between((x, 0, 63))
        where = -1 if self.where[x] is None else self.where[x]
        return [self.joins[x], where, int(x not in self.asleep), len(self.got[x])]

    def tell_got(self, x):
        self.between((x, 0, 63))
        return [len(self.got[x]), *self.got[x]]

    def tell_legs(self, p, x):
        self.between((p, 0, self.points - 1), (x, 0, 63))
        told = [len(self.of(p, x))]
        for key in self.of(p, x):
            leg = self.legs[key]
            how = {"waits": (0, leg["q"], leg["n"]), "holds": (1, 0, 0), "handed": (2, leg["q"], 0)}[leg["how"]]
            told += [key[2], *how, leg["next"], len(leg["queue"])]
            told += itertools.chain.from_iterable(sorted(leg["queue"].items()))
            told += [len(leg["fresh"]), *leg["fresh"], leg["in"]]
        return told

    def tell_beacon(self, p):
        self.between((p, 0, self.points - 1))
        told = [0]
        for x in range(64):
            leg = self.legs.get((p, x, self.joins[x]))
            if self.where[x] == p and leg and leg["how"] == "holds" and leg["queue"]:
                told[0] += 1
                told += [x, len(leg["queue"]), int(x not in self.asleep)]
        return told

    def tell_bag(self):
        told = [len(self.messages)]
        for message in self.messages:
            told.append(("take", "give", "lack", "have").index(message[0]))
            told += message[1:6]
            if message[0] == "give":
                told.append(len(message[6]))
                told += itertools.chain.from_iterable(message[6])
        return told

    def hears(self, p, q, weight):
        self.between((p, 0, self.points - 1), (q, 0, self.points - 1), (weight, 0, 1000000))
        need(p != q, -2)
        self.pairs[frozenset((p, q))] = weight
        return [0]

    def channels(self, c):
        self.between((c, 1, 4))
        ways = []
        for way in itertools.product(range(c), repeat=self.points):
            same = [weight for pair, weight in self.pairs.items() if len({way[p] for p in pair}) == 1]
            ways.append([sum(same), *way])
        return min(ways)


class BesideTheModel(unittest.TestCase):
    def test_the_two_answer_alike(self):
        met = set()
        for seed in range(1000, 1400):
            chooser = Chooser(seed, seed % 4 > 0)
            model = Model()
            world = World()
            calls = [chooser.begin()]
            expected = [model.ask(*calls[0])]
            answer(world, 0, list(calls[0][1:]))
            asked = questions(chooser.points, range(chooser.stations))
            while len(calls) < 250 - len(asked):
                calls.append(chooser.call(world))
                expected.append(model.ask(*calls[-1]))
                answer(world, calls[-1][0], list(calls[-1][1:]))
            calls += asked
            expected += [model.ask(*call) for call in asked]
            self.assertEqual(ask(*calls), expected, calls)
            met.update(call[0] for call, told in zip(calls, expected) if told[0] >= 0)
        self.assertEqual(met, set(range(21)))


if __name__ == "__main__":
    unittest.main()
