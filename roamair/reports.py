"""How stations, legs and messages are told in an answer, as numbers one behind another."""

from roamair.state import GIVE, HANDED, HAVE, HOLDS, LACK, WAITS


def in_rows(rows):
    numbers = [len(rows)]
    for row in rows:
        numbers.extend(row)
    return numbers


def awake_bit(station):
    return 1 if station.awake else 0


def station_numbers(station):
    return [station.joins, station.point, awake_bit(station), len(station.got)]


# How the leg is, in three numbers whatever it is.
def leg_state(leg):
    if leg.state == WAITS:
        return [WAITS, leg.other_point, leg.had_got]
    if leg.state == HANDED:
        return [HANDED, leg.other_point, 0]
    # Once it holds, the point that it waited for is no longer told.
    return [HOLDS, 0, 0]


def leg_row(leg):
    row = [leg.join_number] + leg_state(leg) + [leg.next_number]
    # A frame of a queue is told by its number and itself: a row of two.
    row.extend(in_rows(leg.queue))
    row.append(len(leg.fresh))
    row.extend(leg.fresh)
    row.append(leg.taken_in)
    return row


def beacon_row(station, leg):
    return [leg.station_number, len(leg.queue), awake_bit(station)]


def message_row(message):
    whose = [message.station_number, message.join_number]
    if message.kind == LACK or message.kind == HAVE:
        return [message.kind, message.to_point] + whose
    row = [message.kind, message.to_point, message.from_point] + whose + [message.number]
    if message.kind == GIVE:
        row.extend(in_rows(message.queue))
    return row
