"""What the air keeps: points and their legs, stations, messages on the wire, and who hears whom."""

# These are also the numbers by which answers tell how a leg is, and of which kind a message.
WAITS = 0
HOLDS = 1
HANDED = 2

TAKE = 0
GIVE = 1
LACK = 2
HAVE = 3

NO_POINT = -1
STATION_COUNT = 64


# What a point has for one join of one station.
# other_point is the point it waits for, or the one to which it was handed;
# had_got is how many frames the station had got when it joined.
# A queue is a list of pairs: a frame's number, and the frame.
class Leg:
    def __init__(self, station_number, join_number):
        self.station_number = station_number
        self.join_number = join_number
        self.state = HOLDS
        self.other_point = NO_POINT
        self.had_got = 0
        self.queue = []
        self.next_number = 1
        self.fresh = []
        self.taken_in = 0


# A point on the wire; its legs lie in the order in which they were made.
class Point:
    def __init__(self):
        self.on = True
        self.legs = []


# A station; point is where it is, last_point where it joined last.
class Station:
    def __init__(self):
        self.joins = 0
        self.point = NO_POINT
        self.last_point = NO_POINT
        self.awake = True
        self.got = []


# A message on the wire, which nobody changes once it's made.
# number is the n of a take and the next of a give. What a kind of message
# doesn't tell is NO_POINT, 0 or empty here.
class Message:
    def __init__(self, kind, to_point, from_point, station_number, join_number, number, queue):
        self.kind = kind
        self.to_point = to_point
        self.from_point = from_point
        self.station_number = station_number
        self.join_number = join_number
        self.number = number
        self.queue = queue


# All there is on one line of calls.
# weights has a row for each point, with the weight of its pair with each point;
# 0 is as good as no pair, since it adds to no cost.
class World:
    def __init__(self):
        self.begun = False
        self.room = 0
        self.leg_limit = 0
        self.bag_limit = 0
        self.points = []
        self.stations = []
        self.messages = []
        self.weights = []


def begin_anew(world, point_count, room, leg_limit, bag_limit):
    world.begun = True
    world.room = room
    world.leg_limit = leg_limit
    world.bag_limit = bag_limit
    world.points = [Point() for k in range(point_count)]
    world.stations = [Station() for k in range(STATION_COUNT)]
    world.messages = []
    world.weights = [[0] * point_count for k in range(point_count)]


def find_leg(point, station_number, join_number):
    for leg in point.legs:
        if leg.station_number == station_number and leg.join_number == join_number:
            return leg
    return None


# The station's legs at the point, in the order of joins: they are made in that order.
def legs_of(point, station_number):
    return [leg for leg in point.legs if leg.station_number == station_number]


# The leg of the station's latest join there that waits or holds, or None.
def latest_taking_leg(point, station_number):
    for leg in reversed(legs_of(point, station_number)):
        if leg.state != HANDED:
            return leg
    return None


# The leg of the station's last join if the point has it and it holds, else None.
def last_holding_leg(world, point_number, station_number):
    leg = find_leg(world.points[point_number], station_number, world.stations[station_number].joins)
    if leg is not None and leg.state == HOLDS:
        return leg
    return None


def frames_kept(point):
    return sum([len(leg.queue) + len(leg.fresh) for leg in point.legs])


def add_numbered(leg, frame):
    leg.queue.append((leg.next_number, frame))
    leg.next_number = leg.next_number + 1


def drop_up_to(leg, number):
    leg.queue = [entry for entry in leg.queue if entry[0] > number]


def come_to_hold(leg, queue, next_number):
    leg.state = HOLDS
    # A doubled give may bring the same queue elsewhere, and a handed leg keeps it: so a copy.
    leg.queue = list(queue)
    leg.next_number = next_number
    fresh = leg.fresh
    leg.fresh = []
    for frame in fresh:
        add_numbered(leg, frame)


def come_to_hold_nothing(leg):
    come_to_hold(leg, [], leg.had_got + 1)
