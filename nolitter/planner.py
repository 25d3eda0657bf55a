"""Plans of the least work, put together as the table tells."""

from nolitter.plans import turned_plan
from nolitter.table import alone_table, reached_table


def left_plan(costs, s):
    """A left plan of the least work; None where there is none."""
    alones = alone_table(costs, s)
    if (s, 0, len(costs)) not in alones:
        return None
    return left_way(s, 0, len(costs), alones)


def shown_plan(costs, s):
    """A shown plan of the least work; None where there is none."""
    alones = alone_table(costs, s)
    reacheds = reached_table(costs, s, alones)
    if (s, 0) not in reacheds:
        return None
    way = reached_way(s, 0, len(costs), alones, reacheds)
    return way + [("show",)] + turned_plan(way)


def left_way(places, begin, end, alones):
    """A way from the mark at the begin to that and the mark at the end alone."""
    if end - begin == 1:
        return [("lay", end)]
    middle = alones[(places, begin, end)][1]
    return (left_way(places, begin, middle, alones)
            + left_way(places - 1, middle, end, alones)
            + turned_plan(left_way(places - 1, begin, middle, alones)))


def reached_way(places, begin, end, alones, reacheds):
    """A way from the mark at the begin to any marks with that at the end."""
    if end - begin == 1:
        return [("lay", end)]
    middle = reacheds[(places, begin)][1]
    return left_way(places, begin, middle, alones) + reached_way(places - 1, middle, end, alones, reacheds)
