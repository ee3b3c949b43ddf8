"""The wire: how messages are put, and what each does at its point."""

from roamair.state import (
    GIVE, HANDED, HAVE, HOLDS, LACK, NO_POINT, TAKE, WAITS,
    Message, come_to_hold, come_to_hold_nothing, drop_up_to, find_leg,
)


# Puts the message behind the others and answers 1, or 0 if it's lost for want of room.
def put(world, message):
    if len(world.messages) >= world.bag_limit:
        return 0
    world.messages.append(message)
    return 1


# Asks for what the leg, which waits at the point, waits for.
def put_take(world, point_number, leg):
    return put(world, Message(
        TAKE, leg.other_point, point_number, leg.station_number, leg.join_number, leg.had_got, []))


# Gives what the leg, handed at the point, keeps a copy of; it's for the join behind the leg's own.
def put_give(world, point_number, leg):
    return put(world, Message(
        GIVE, leg.other_point, point_number, leg.station_number, leg.join_number + 1,
        leg.next_number, list(leg.queue)))


def put_lack(world, to_point, station_number, join_number):
    return put(world, Message(LACK, to_point, NO_POINT, station_number, join_number, 0, []))


def put_have(world, to_point, station_number, join_number):
    return put(world, Message(HAVE, to_point, NO_POINT, station_number, join_number, 0, []))


# The leg of the message's join if it waits at the point, else None.
def waiting_leg(point, message):
    leg = find_leg(point, message.station_number, message.join_number)
    if leg is not None and leg.state == WAITS:
        return leg
    return None


# The leg of the join ahead of the message's join, or None.
def leg_before(point, message):
    return find_leg(point, message.station_number, message.join_number - 1)


def bring_take(world, point, message):
    leg = leg_before(point, message)
    if leg is None:
        put_lack(world, message.from_point, message.station_number, message.join_number)
        return
    if leg.state == HOLDS:
        leg.state = HANDED
        leg.other_point = message.from_point
        drop_up_to(leg, message.number)
    if leg.state == HANDED:
        put_give(world, message.to_point, leg)


def bring_give(world, point, message):
    leg = waiting_leg(point, message)
    if leg is not None:
        come_to_hold(leg, message.queue, message.number)
    # Also when nothing waits any more: else a lost have would leave the copy lying for good.
    put_have(world, message.from_point, message.station_number, message.join_number)


def bring_lack(point, message):
    leg = waiting_leg(point, message)
    if leg is not None:
        come_to_hold_nothing(leg)


def bring_have(point, message):
    leg = leg_before(point, message)
    if leg is not None and leg.state == HANDED:
        point.legs.remove(leg)


# Takes message k out and brings it to its point.
def bring(world, k):
    message = world.messages.pop(k)
    point = world.points[message.to_point]
    if not point.on:
        return
    if message.kind == TAKE:
        bring_take(world, point, message)
    elif message.kind == GIVE:
        bring_give(world, point, message)
    elif message.kind == LACK:
        bring_lack(point, message)
    else:
        bring_have(point, message)
