"""How calls stand in the one list, and the ranges told for their numbers. All tables go by the call's number."""

# The least and the greatest of each whole number of a call.
NUMBER_RANGES = (
    ((1, 7),),
    (),
    (),
    (),
    (),
    (),
    ((0, 6),),
    ((0, 6),),
    ((0, 6), (0, 100000)),
    ((0, 127),),
)

# The same for a call's row, over and over; a call without a row has none.
ROW_RANGES = (
    ((0, 6), (0, 6), (1, 1000), (1, 3)),
    (),
    (),
    ((0, 15),),
    (),
    ((0, 1000000), (0, 1000000)),
    (),
    ((0, 15),),
    (),
    (),
)

# How many numbers a call's row has at most.
ROW_MOST = (64, 0, 0, 16, 0, 60, 0, 80, 0, 0)


class Call:
    """One call: its number, its whole numbers, its row (empty if it has none)."""

    def __init__(self, number, numbers, row):
        self.number = number
        self.numbers = numbers
        self.row = row


def read_calls(calls):
    """The calls that stand one behind another in the list."""
    told = []
    at = 0
    while at < len(calls):
        number = calls[at]
        behind = at + 1 + len(NUMBER_RANGES[number])
        numbers = calls[at + 1:behind]
        row = []
        at = behind
        if len(ROW_RANGES[number]) > 0:
            at = behind + 1 + calls[behind]
            row = calls[behind + 1:at]
        told.append(Call(number, numbers, row))
    return told


def fit(numbers, most, ranges):
    """Whether numbers are at most so many, stand in whole groups, and are each within its range."""
    if len(numbers) == 0:
        return True
    if len(numbers) > most or len(numbers) % len(ranges) != 0:
        return False
    for at, number in enumerate(numbers):
        bounds = ranges[at % len(ranges)]
        if number < bounds[0] or number > bounds[1]:
            return False
    return True


def is_within(call):
    """Whether all that the call has is within the ranges and lengths told for it."""
    ranges = NUMBER_RANGES[call.number]
    if not fit(call.numbers, len(ranges), ranges):
        return False
    return fit(call.row, ROW_MOST[call.number], ROW_RANGES[call.number])
