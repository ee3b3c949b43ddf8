"""Channels: the way of giving them to the points that costs least.

A way is a list of channels, from point 0 on; weights has a row for each point, with its pairs' weights.
"""


# For each channel that is tried at the point behind the way's: what it costs there beside the way's points.
def costs_behind(weights, channel_count, way):
    # Channels that the way doesn't use cost nothing and may change places with one another
    # in all that follows, so only the least of them can stand in the best way.
    used = max(way, default=-1) + 1
    costs = [0] * min(used + 1, channel_count)
    row = weights[len(way)]
    for point_number, channel in enumerate(way):
        costs[channel] = costs[channel] + row[point_number]
    return costs


# Of the ways that begin with this one, which costs so much: the best and its cost,
# or what's found already, if none of them costs less.
def best_beginning_with(weights, channel_count, way, cost, found):
    # Costs only grow, and of ways that cost the same the one found first is the least.
    if found is not None and cost >= found[0]:
        return found
    if len(way) == len(weights):
        return (cost, way)
    best = found
    for channel, more in enumerate(costs_behind(weights, channel_count, way)):
        best = best_beginning_with(weights, channel_count, way + [channel], cost + more, best)
    return best


# The least cost, and the best way.
def best_way(weights, channel_count):
    return best_beginning_with(weights, channel_count, [], 0, None)
