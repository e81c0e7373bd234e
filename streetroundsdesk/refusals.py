"""Why a call is refused, and the answer that says so."""

OUT_OF_RANGE = 1
NO_MAP = 2
NO_SUCH = 3
NO_ROOM = 4
NOT_JOINED = 5
TOO_LONG = 6


def refused(why):
    """The answer of a refused call: one number below 0, alone."""
    return [-why]
