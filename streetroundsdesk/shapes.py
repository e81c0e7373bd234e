"""How calls stand in the one list, and the ranges told for their numbers. All tables go by the call's number."""

HOME_CALL = 11

# The least and the greatest of each whole number of a call.
NUMBER_RANGES = (
    ((1, 7),),
    (),
    (),
    (),
    (),
    (),
    ((0, 6),),
    ((0, 6),),
    ((0, 6), (0, 100000)),
    ((0, 127),),
    (),
    ((0, 6), (0, 100000), (0, 100000)),
    (),
    ((0, 6), (0, 100000)),
    ((0, 6), (0, 200)),
    ((0, 15),),
    ((0, 15), (1, 1000), (1, 3)),
    ((0, 6), (0, 6), (1, 1000), (1, 3)),
    (),
    (),
)

# The same for the row of each call that has one, over and over.
ROW_RANGES = {
    0: ((0, 6), (0, 6), (1, 1000), (1, 3)),
    3: ((0, 15),),
    5: ((0, 1000000), (0, 1000000)),
    7: ((0, 15),),
}

# How many numbers such a row has at most.
ROW_MOST = {0: 64, 3: 16, 5: 60, 7: 80}


class Call:
    """One call: its number, its whole numbers, its row (empty if it has none)."""

    def __init__(self, number, numbers, row):
        self.number = number
        self.numbers = numbers
        self.row = row


def read_calls(calls):
    """The calls that stand one behind another in the list."""
    told = []
    at = 0
    while at < len(calls):
        number = calls[at]
        behind = at + 1 + len(NUMBER_RANGES[number])
        numbers = calls[at + 1:behind]
        row = []
        at = behind
        if number in ROW_RANGES:
            at = behind + 1 + calls[behind]
            row = calls[behind + 1:at]
        told.append(Call(number, numbers, row))
    return told


def fit(numbers, most, ranges):
    """Whether numbers are at most so many, stand in whole groups, and are each within its range."""
    if len(numbers) == 0:
        return True
    if len(numbers) > most or len(numbers) % len(ranges) != 0:
        return False
    for at, number in enumerate(numbers):
        bounds = ranges[at % len(ranges)]
        if number < bounds[0] or number > bounds[1]:
            return False
    return True


def is_within(call):
    """Whether all that the call has is within the ranges and lengths told for it."""
    ranges = NUMBER_RANGES[call.number]
    if not fit(call.numbers, len(ranges), ranges):
        return False
    if call.number == HOME_CALL and call.numbers[2] < call.numbers[1]:
        return False
    if call.number in ROW_RANGES:
        return fit(call.row, ROW_MOST[call.number], ROW_RANGES[call.number])
    return True
