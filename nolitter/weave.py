"""Pieces woven into rows of code: what they set is put into fresh boxes, so nothing is lost.

A box that was set is never changed again. So two of the program's boxes may share a place, and an "is" of a name
needs no row: its box's place is from then on the other one's. Both ways of a choose are woven to be run, since neither
changes what the other reads; behind them each box takes over the value of the way that was chosen.
"""

# A difference of two values that is below 0 has this bit as its rest by 2 ** 32; no other has it.
BELOW_NOUGHT = 31


class Loom:
    """The rows woven so far, the number of the first box that is still fresh, and the steps that the rows take."""

    def __init__(self, wide, fresh):
        self.wide = wide
        self.fresh = fresh
        self.rows = []
        self.steps = 0

    def fresh_box(self):
        """A box that holds 0 and that no row speaks of yet."""
        self.fresh += 1
        return self.fresh - 1

    def put(self, rows):
        """Put rows, each of which is one step, behind those that stand already."""
        self.rows.extend(rows)
        self.steps += len(rows)

    def put_by_choice(self, chosen, yes, no):
        """Put rows of which just yes are done where chosen holds 1, and just no where it holds 0; both as many."""
        self.put_unless(chosen, 0, yes)
        self.put_unless(chosen, 1, no)
        # One of the two is gone past in one step; the other takes one more for its come.
        self.steps += len(yes) + 3

    def put_unless(self, box, number, rows):
        """Put rows that are gone past where a box holds a number."""
        start = len(self.rows)
        self.rows.append(("go", box, number, start + len(rows) + 1))
        self.rows.extend(rows)
        self.rows.append(("come", box, number, start))


def weave(pieces, boxes, wide, places, fresh):
    """The rows that pieces are woven into, the places that hold what they make, the next fresh box, the steps."""
    loom = Loom(wide, fresh)
    where = dict(zip(boxes, places))
    weave_rows(pieces, where, loom)
    return (loom.rows, [where[name] for name in boxes], loom.fresh, loom.steps)


def weave_rows(rows, where, loom):
    """Weave rows in order; where tells, from then on, the places of what they make."""
    for row in rows:
        if row[0] == "is":
            where[row[1]] = place_of(row[2], where, loom)
        elif row[0] == "op":
            first = place_of(row[3], where, loom)
            second = place_of(row[4], where, loom)
            where[row[1]] = weave_sign(row[2], first, second, loom)
        else:
            weave_choose(row, where, loom)


def weave_choose(row, where, loom):
    """Weave both ways, and rows that take over what the chosen one makes."""
    yes = dict(where)
    weave_rows(row[2], yes, loom)
    no = dict(where)
    weave_rows(row[3], no, loom)
    chosen = truth(place_of(row[1], where, loom), loom)
    where.update(yes)
    unlike = [name for name in yes if yes[name] != no[name]]
    for name in unlike:
        where[name] = loom.fresh_box()
    loom.put_by_choice(chosen,
                       [("add", where[name], ("box", yes[name])) for name in unlike],
                       [("add", where[name], ("box", no[name])) for name in unlike])


def place_of(atom, where, loom):
    """The box that holds an atom's value."""
    if isinstance(atom, str):
        return where[atom]
    box = loom.fresh_box()
    loom.put([("add", box, ("num", atom))])
    return box


def weave_sign(sign, first, second, loom):
    """The box that holds what a sign makes of the values of two boxes, which may be the same."""
    if sign == "+":
        return total(first, second, loom)
    if sign == "-":
        return difference(first, second, loom)
    if sign == "&":
        return bits_of_both(first, second, loom)
    if sign == "|":
        return bits_of_any(first, second, loom)
    if sign == "^":
        return bits_of_one(first, second, loom)
    if sign == "<":
        return smaller(first, second, loom)
    return alike(first, second, loom)


def total(first, second, loom):
    """The sum's rest by 2 ** wide."""
    box = loom.fresh_box()
    over = loom.fresh_box()
    # The sum is below twice 2 ** wide, so the rest lacks at most this one bit of it.
    loom.put([("add", box, ("box", first)), ("add", box, ("box", second)),
              ("turn", over, loom.wide, ((box, loom.wide),)), ("take", box, ("box", over))])
    return box


def difference(first, second, loom):
    """The difference's rest by 2 ** wide."""
    box = gap(first, second, loom)
    over = loom.fresh_box()
    loom.put([("turn", over, loom.wide, ((box, BELOW_NOUGHT),)), ("add", box, ("box", over))])
    return box


def gap(first, second, loom):
    """The difference's rest by 2 ** 32."""
    box = loom.fresh_box()
    loom.put([("add", box, ("box", first)), ("take", box, ("box", second))])
    return box


def bits_of_both(first, second, loom):
    """The bits that both values have."""
    box = loom.fresh_box()
    loom.put([("turn", box, bit, ((first, bit), (second, bit))) for bit in range(loom.wide)])
    return box


def bits_of_any(first, second, loom):
    """The bits that one value at least has."""
    # In the sum the bits that both have are counted twice.
    return sum_without_both(first, second, 1, loom)


def bits_of_one(first, second, loom):
    """The bits that just one value has."""
    return sum_without_both(first, second, 2, loom)


def sum_without_both(first, second, count, loom):
    """The sum, from which the bits that both values have are taken so many times."""
    both = bits_of_both(first, second, loom)
    box = loom.fresh_box()
    loom.put([("add", box, ("box", first)), ("add", box, ("box", second))] + [("take", box, ("box", both))] * count)
    return box


def smaller(first, second, loom):
    """1 where the first value is smaller than the second, else 0."""
    apart = gap(first, second, loom)
    box = loom.fresh_box()
    loom.put([("turn", box, 0, ((apart, BELOW_NOUGHT),))])
    return box


def alike(first, second, loom):
    """1 where the two values are alike, else 0."""
    apart = gap(first, second, loom)
    other_way = gap(second, first, loom)
    box = loom.fresh_box()
    loom.put([("turn", box, 0, ()), ("turn", box, 0, ((apart, BELOW_NOUGHT),)),
              ("turn", box, 0, ((other_way, BELOW_NOUGHT),))])
    return box


def truth(asked, loom):
    """1 where a value isn't 0, else 0."""
    below = loom.fresh_box()
    box = loom.fresh_box()
    loom.put([("take", below, ("box", asked)), ("turn", box, 0, ((below, BELOW_NOUGHT),))])
    return box
