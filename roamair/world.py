"""A line of calls on one world, and its answers."""

from roamair.arguments import all_in_range, argument_count
from roamair.calls import carry_out
from roamair.state import World

BEGIN = 0

NOT_BEGUN = -1
OUT_OF_RANGE = -2


# What one call answers; a refusal is its number alone and changes nothing.
def answer(world, place, numbers):
    if place != BEGIN and not world.begun:
        return [NOT_BEGUN]
    if not all_in_range(world, place, numbers):
        return [OUT_OF_RANGE]
    return carry_out(world, place, numbers)


# For each of the calls, which lie one behind another: how many numbers it answers, then these.
def answers(calls):
    world = World()
    told = []
    at = 0
    while at < len(calls):
        place = calls[at]
        end = at + 1 + argument_count(place)
        numbers = answer(world, place, calls[at + 1:end])
        told.append(len(numbers))
        told.extend(numbers)
        at = end
    return told
