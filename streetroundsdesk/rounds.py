"""The one function of the interface."""

from streetroundsdesk.desk import answer_call
from streetroundsdesk.maps import Desk
from streetroundsdesk.shapes import read_calls


def answers(calls):
    """All answers of a line of calls on a new desk, each behind how many numbers it has."""
    desk = Desk()
    given = []
    for call in read_calls(calls):
        answer = answer_call(desk, call)
        given.append(len(answer))
        given.extend(answer)
    return given
