"""What each call takes, and in which range."""

# By a call's place: what its arguments stand for, in order.
ARGUMENTS = (
    ("points", "room", "legs", "bag"),
    ("point", "bit"),
    ("station", "point"),
    ("station",),
    ("station",),
    ("station",),
    ("point", "station", "frame"),
    ("point", "station", "bit", "bit"),
    ("point", "station"),
    ("point", "station"),
    ("message",),
    ("message",),
    ("message",),
    ("times",),
    ("station",),
    ("station",),
    ("point", "station"),
    ("point",),
    (),
    ("point", "point", "weight"),
    ("channels",),
)

HEARS = 19

# The least and the greatest that are taken, where the world has no say in it.
RANGES = {
    "points": (1, 8),
    "room": (1, 1000),
    "legs": (1, 64),
    "bag": (1, 4096),
    "bit": (0, 1),
    "station": (0, 63),
    "frame": (0, 4294967295),
    "times": (0, 10000),
    "weight": (0, 1000000),
    "channels": (1, 4),
}


def argument_count(place):
    return len(ARGUMENTS[place])


def range_of(world, meaning):
    if meaning == "point":
        return (0, len(world.points) - 1)
    if meaning == "message":
        return (0, len(world.messages) - 1)
    return RANGES[meaning]


def all_in_range(world, place, numbers):
    for meaning, number in zip(ARGUMENTS[place], numbers):
        bounds = range_of(world, meaning)
        if number < bounds[0] or number > bounds[1]:
            return False
    # A point has no pair with itself: that's told as an argument out of range too.
    return place != HEARS or numbers[0] != numbers[1]
