"""The calls of a line, one behind another, and their answers."""

from sumsstay.boxcalls import call_cube
from sumsstay.boxcalls import call_cubecheck
from sumsstay.netcalls import call_cost
from sumsstay.netcalls import call_flow
from sumsstay.netcalls import call_flowcheck
from sumsstay.netcalls import call_flownone
from sumsstay.netcalls import call_flowprices
from sumsstay.netcalls import call_flowshows
from sumsstay.netcalls import call_net
from sumsstay.tablecalls import call_arcs
from sumsstay.tablecalls import call_cell
from sumsstay.tablecalls import call_check
from sumsstay.tablecalls import call_distance
from sumsstay.tablecalls import call_free
from sumsstay.tablecalls import call_keep
from sumsstay.tablecalls import call_prices
from sumsstay.tablecalls import call_round
from sumsstay.tablecalls import call_shows
from sumsstay.tablecalls import call_table
from sumsstay.tablecalls import call_truth
from sumsstay.tablecalls import call_weights

# By the call's number: how many whole numbers it has, then how many lists.
SHAPES = {
    0: (1, 3),
    1: (2, 0),
    2: (2, 0),
    3: (1, 0),
    4: (0, 0),
    5: (0, 0),
    6: (0, 0),
    7: (0, 2),
    8: (0, 1),
    9: (0, 0),
    10: (0, 1),
    11: (3, 0),
    12: (4, 1),
    13: (4, 2),
    14: (1, 2),
    15: (0, 0),
    16: (0, 0),
    17: (0, 2),
    18: (0, 0),
    19: (0, 1),
    20: (0, 1),
    21: (0, 0),
}


class Line:
    """What the calls of a line are on."""

    def __init__(self):
        self.table = None
        self.net = None


class Call:
    """A call as it was read, and where the next one begins."""

    def __init__(self, number, numbers, lists, end):
        self.number = number
        self.numbers = numbers
        self.lists = lists
        self.end = end


def read_call(calls, begin):
    number = calls[begin]
    shape = SHAPES[number]
    place = begin + 1 + shape[0]
    numbers = calls[begin + 1:place]
    lists = []
    while len(lists) < shape[1]:
        end = place + 1 + calls[place]
        lists.append(calls[place + 1:end])
        place = end
    return Call(number, numbers, lists, place)


def call_sizes(line):
    table_sizes = [0, 0, 0, 0]
    net_sizes = [0, 0, 0]
    if line.table is not None:
        table_sizes = [1, len(line.table.rows), len(line.table.columns), len(line.table.kept)]
    if line.net is not None:
        net_sizes = [1, len(line.net.supplies), len(line.net.arcs)]
    return [0] + table_sizes + net_sizes


def answer_table_change(line, number, numbers, lists):
    """The calls 0 to 3 and 11, which change the table."""
    if number == 0:
        return call_table(line, numbers[0], lists[0], lists[1], lists[2])
    if number == 1:
        return call_weights(line, numbers[0], numbers[1])
    if number == 2:
        return call_keep(line, numbers[0], numbers[1])
    if number == 3:
        return call_free(line, numbers[0])
    return call_cell(line, numbers[0], numbers[1], numbers[2])


def answer_table_question(line, number, lists):
    """The calls 4 to 10, which only ask about the table."""
    if number == 4:
        return call_arcs(line)
    if number == 5:
        return call_round(line)
    if number == 6:
        return call_prices(line)
    if number == 7:
        return call_check(line, lists[0], lists[1])
    if number == 8:
        return call_shows(line, lists[0])
    if number == 9:
        return call_truth(line)
    return call_distance(line, lists[0])


def answer_box_call(number, numbers, lists):
    """The calls 12 and 13, which neither ask about what the line has nor change it."""
    if number == 12:
        return call_cube(numbers[0], numbers[1:], lists[0])
    return call_cubecheck(numbers[0], numbers[1:], lists[0], lists[1])


def answer_net_call(line, number, numbers, lists):
    """The calls 14 to 20, of which the first alone changes the net."""
    if number == 14:
        return call_net(line, numbers[0], lists[0], lists[1])
    if number == 15:
        return call_flow(line)
    if number == 16:
        return call_flowprices(line)
    if number == 17:
        return call_flowcheck(line, lists[0], lists[1])
    if number == 18:
        return call_flownone(line)
    if number == 19:
        return call_flowshows(line, lists[0])
    return call_cost(line, lists[0])


def answer_call(line, call):
    number = call.number
    if number <= 3 or number == 11:
        return answer_table_change(line, number, call.numbers, call.lists)
    if number <= 10:
        return answer_table_question(line, number, call.lists)
    if number <= 13:
        return answer_box_call(number, call.numbers, call.lists)
    if number <= 20:
        return answer_net_call(line, number, call.numbers, call.lists)
    return call_sizes(line)


def answers(calls):
    """For each of the calls how many numbers are answered, and these."""
    line = Line()
    given = []
    place = 0
    while place < len(calls):
        call = read_call(calls, place)
        answer = answer_call(line, call)
        given.append(len(answer))
        given.extend(answer)
        place = call.end
    return given
