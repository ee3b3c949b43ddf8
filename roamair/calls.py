"""What each call answers and changes, once it's begun and its arguments are in range.

Each takes the world and its arguments in a list, and answers a list of numbers.
"""

from roamair.channels import best_way
from roamair.reports import beacon_row, in_rows, leg_row, message_row, station_numbers
from roamair.state import (
    HANDED, HOLDS, NO_POINT, WAITS,
    Leg, add_numbered, begin_anew, come_to_hold_nothing, drop_up_to, frames_kept,
    last_holding_leg, latest_taking_leg, legs_of,
)
from roamair.wire import bring, put, put_give, put_take

SO_ALREADY = -3
POINT_OFF = -4
TOO_MANY_LEGS = -5
STATION_NOT_SO = -6
NO_SUCH_LEG = -7
NO_ROOM = -8
NOTHING_TO_SEND = -9
BAG_FULL = -10


def begin(world, numbers):
    begin_anew(world, numbers[0], numbers[1], numbers[2], numbers[3])
    return [0]


def power(world, numbers):
    point = world.points[numbers[0]]
    on = numbers[1] == 1
    if point.on == on:
        return [SO_ALREADY]
    point.on = on
    point.legs = []
    return [0]


# The leg of the station's next join, which hasn't been counted yet.
def new_leg(station, station_number):
    leg = Leg(station_number, station.joins + 1)
    if station.joins > 0:
        leg.state = WAITS
        leg.other_point = station.last_point
        leg.had_got = len(station.got)
    return leg


def join_point(world, numbers):
    station = world.stations[numbers[0]]
    point = world.points[numbers[1]]
    if not point.on:
        return [POINT_OFF]
    if len(point.legs) >= world.leg_limit:
        return [TOO_MANY_LEGS]
    leg = new_leg(station, numbers[0])
    point.legs.append(leg)
    station.joins = leg.join_number
    station.point = numbers[1]
    station.last_point = numbers[1]
    station.awake = True
    if leg.state == WAITS:
        put_take(world, numbers[1], leg)
    return [leg.join_number]


def leave(world, numbers):
    station = world.stations[numbers[0]]
    if station.point == NO_POINT:
        return [STATION_NOT_SO]
    station.point = NO_POINT
    return [0]


def sleep(world, numbers):
    station = world.stations[numbers[0]]
    if station.point == NO_POINT or not station.awake:
        return [STATION_NOT_SO]
    station.awake = False
    return [0]


def wake(world, numbers):
    station = world.stations[numbers[0]]
    if station.point == NO_POINT or station.awake:
        return [STATION_NOT_SO]
    station.awake = True
    return [0]


def accept(world, numbers):
    point = world.points[numbers[0]]
    if not point.on:
        return [POINT_OFF]
    leg = latest_taking_leg(point, numbers[1])
    if leg is None:
        return [NO_SUCH_LEG]
    if frames_kept(point) >= world.room:
        return [NO_ROOM]
    if leg.state == HOLDS:
        add_numbered(leg, numbers[2])
    else:
        leg.fresh.append(numbers[2])
    leg.taken_in = leg.taken_in + 1
    return [leg.join_number, leg.taken_in]


# The station gets the numbered frame, if it's the one behind all that it has got.
def hear(station, entry):
    if entry[0] == len(station.got) + 1:
        station.got.append(entry[1])


def air(world, numbers):
    point = world.points[numbers[0]]
    station = world.stations[numbers[1]]
    if not point.on:
        return [POINT_OFF]
    if station.point != numbers[0] or not station.awake:
        return [STATION_NOT_SO]
    leg = last_holding_leg(world, numbers[0], numbers[1])
    if leg is None:
        return [NO_SUCH_LEG]
    if len(leg.queue) == 0:
        return [NOTHING_TO_SEND]
    entry = leg.queue[0]
    frame_lost = numbers[2] == 1
    word_lost = numbers[3] == 1
    if not frame_lost:
        hear(station, entry)
        if not word_lost:
            drop_up_to(leg, len(station.got))
    return [entry[0], len(station.got)]


def retry(world, numbers):
    point = world.points[numbers[0]]
    if not point.on:
        return [POINT_OFF]
    found_room = 0
    for leg in legs_of(point, numbers[1]):
        if leg.state == WAITS:
            found_room = found_room + put_take(world, numbers[0], leg)
        elif leg.state == HANDED:
            found_room = found_room + put_give(world, numbers[0], leg)
    return [found_room]


def give_up(world, numbers):
    point = world.points[numbers[0]]
    if not point.on:
        return [POINT_OFF]
    for leg in legs_of(point, numbers[1]):
        if leg.state == WAITS and not world.points[leg.other_point].on:
            come_to_hold_nothing(leg)
            return [leg.join_number]
    return [NO_SUCH_LEG]


def deliver(world, numbers):
    bring(world, numbers[0])
    return [len(world.messages)]


def lose(world, numbers):
    world.messages.pop(numbers[0])
    return [0]


def double(world, numbers):
    if put(world, world.messages[numbers[0]]) == 0:
        return [BAG_FULL]
    return [0]


def flow(world, numbers):
    times = 0
    while times < numbers[0] and len(world.messages) > 0:
        bring(world, 0)
        times = times + 1
    return [times]


def tell_station(world, numbers):
    return station_numbers(world.stations[numbers[0]])


def tell_got(world, numbers):
    got = world.stations[numbers[0]].got
    return [len(got)] + got


def tell_legs(world, numbers):
    return in_rows([leg_row(leg) for leg in legs_of(world.points[numbers[0]], numbers[1])])


def tell_beacon(world, numbers):
    rows = []
    for station_number, station in enumerate(world.stations):
        leg = last_holding_leg(world, numbers[0], station_number)
        if station.point == numbers[0] and leg is not None and len(leg.queue) > 0:
            rows.append(beacon_row(station, leg))
    return in_rows(rows)


def tell_bag(world, numbers):
    return in_rows([message_row(message) for message in world.messages])


def hears(world, numbers):
    world.weights[numbers[0]][numbers[1]] = numbers[2]
    world.weights[numbers[1]][numbers[0]] = numbers[2]
    return [0]


def tell_channels(world, numbers):
    found = best_way(world.weights, numbers[0])
    return [found[0]] + found[1]


# By a call's place.
CALLS = (
    begin, power, join_point, leave, sleep, wake, accept, air, retry, give_up, deliver, lose, double, flow,
    tell_station, tell_got, tell_legs, tell_beacon, tell_bag, hears, tell_channels,
)


def carry_out(world, place, numbers):
    call = CALLS[place]
    return call(world, numbers)
