"""The calls of a line, one behind another, and their answers."""

from sumsstay.tablecalls import call_arcs
from sumsstay.tablecalls import call_check
from sumsstay.tablecalls import call_distance
from sumsstay.tablecalls import call_free
from sumsstay.tablecalls import call_keep
from sumsstay.tablecalls import call_prices
from sumsstay.tablecalls import call_round
from sumsstay.tablecalls import call_shows
from sumsstay.tablecalls import call_table
from sumsstay.tablecalls import call_truth
from sumsstay.tablecalls import call_weights

# By the call's number: how many whole numbers it has, then how many lists.
SHAPES = {
    0: (1, 3),
    1: (2, 0),
    2: (2, 0),
    3: (1, 0),
    4: (0, 0),
    5: (0, 0),
    6: (0, 0),
    7: (0, 2),
    8: (0, 1),
    9: (0, 0),
    10: (0, 1),
}


class Line:
    """What the calls of a line are on."""

    def __init__(self):
        self.table = None


class Call:
    """A call as it was read, and where the next one begins."""

    def __init__(self, number, numbers, lists, end):
        self.number = number
        self.numbers = numbers
        self.lists = lists
        self.end = end


def read_call(calls, begin):
    number = calls[begin]
    shape = SHAPES[number]
    place = begin + 1 + shape[0]
    numbers = calls[begin + 1:place]
    lists = []
    while len(lists) < shape[1]:
        end = place + 1 + calls[place]
        lists.append(calls[place + 1:end])
        place = end
    return Call(number, numbers, lists, place)


def answer_changing_call(line, number, numbers, lists):
    """The calls 0 to 3, which change the table."""
    if number == 0:
        return call_table(line, numbers[0], lists[0], lists[1], lists[2])
    if number == 1:
        return call_weights(line, numbers[0], numbers[1])
    if number == 2:
        return call_keep(line, numbers[0], numbers[1])
    return call_free(line, numbers[0])


def answer_asking_call(line, number, lists):
    """The calls 4 to 10, which only ask."""
    if number == 4:
        return call_arcs(line)
    if number == 5:
        return call_round(line)
    if number == 6:
        return call_prices(line)
    if number == 7:
        return call_check(line, lists[0], lists[1])
    if number == 8:
        return call_shows(line, lists[0])
    if number == 9:
        return call_truth(line)
    return call_distance(line, lists[0])


def answer_call(line, call):
    if call.number < 4:
        return answer_changing_call(line, call.number, call.numbers, call.lists)
    return answer_asking_call(line, call.number, call.lists)


def answers(calls):
    """For each of the calls how many numbers are answered, and these."""
    line = Line()
    given = []
    place = 0
    while place < len(calls):
        call = read_call(calls, place)
        answer = answer_call(line, call)
        given.append(len(answer))
        given.extend(answer)
        place = call.end
    return given
