"""The table of the least work: for each run of stretches and each number of spare places, and where to part it.

Stretches are told by their begin and end, as in a slice of the costs.
"""


def alone(costs, s):
    """The least work of a left plan; None where there is none."""
    return work_at(alone_table(costs, s), (s, 0, len(costs)))


def reached(costs, s):
    """The least work of a way to any set with the last mark; None where there is none."""
    return work_at(reached_table(costs, s, alone_table(costs, s)), (s, 0))


def reach(s):
    """The most stretches whose last mark can stand."""
    return (1 << s) - 1


def alone_reach(s):
    """The most stretches whose last mark can stand alone."""
    return 1 << (s - 1) if s > 0 else 0


def work_at(table, key):
    """The least work that a table has there; None where it has none."""
    return table[key][0] if key in table else None


def alone_table(costs, s):
    """For places, begin and end, where there is a left plan: its least work, and where the first part ends."""
    table = {}
    for places in range(1, s + 1):
        for many in range(1, min(len(costs), alone_reach(places)) + 1):
            for begin in range(len(costs) - many + 1):
                table[(places, begin, begin + many)] = least_alone(costs, places, begin, begin + many, table)
    return table


def least_alone(costs, places, begin, end, table):
    """The least work of leaving the last of some stretches alone, and where their first part ends."""
    if end - begin == 1:
        return (costs[begin], end)
    # Both parts must be left alone with one place less, so neither may be longer than that lets.
    most = alone_reach(places - 1)
    middles = list(range(max(begin + 1, end - most), min(end - 1, begin + most) + 1))
    return min([(alone_by(places, begin, middle, end, table), middle) for middle in middles])


def alone_by(places, begin, middle, end, table):
    """The least work of laying the middle's mark alone, the end's from there, and clearing the middle's again."""
    return (table[(places, begin, middle)][0] + table[(places - 1, middle, end)][0]
            + table[(places - 1, begin, middle)][0])


def reached_table(costs, s, alones):
    """For places and begin, up to the last stretch, where there is a way: its least work, where the first part ends."""
    table = {}
    for places in range(1, s + 1):
        for many in range(1, min(len(costs), reach(places)) + 1):
            begin = len(costs) - many
            table[(places, begin)] = least_reached(costs, places, begin, alones, table)
    return table


def least_reached(costs, places, begin, alones, table):
    """The least work of coming to the last of all stretches from a begin, and where the first part ends."""
    end = len(costs)
    if end - begin == 1:
        return (costs[begin], end)
    # The first part must be left alone with all places, the others come to with one less.
    middles = list(range(max(begin + 1, end - reach(places - 1)), min(end - 1, begin + alone_reach(places)) + 1))
    return min([(alones[(places, begin, middle)][0] + table[(places - 1, middle)][0], middle) for middle in middles])
