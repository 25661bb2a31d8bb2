"""Roads: ways through edges, a net written as a dict of dicts, whose sums are the least."""

from driftmeet.errors import NoName


def refuse_unknown(edges, x):
    if x not in edges:
        raise NoName("this name has no row")


def go_on(row, x, sums, back):
    """Goes on from x by each bound of its row, and tells the names whose sums are less by that."""
    fallen = []
    for y, most in row.items():
        total = sums[x] + most
        if y not in sums or total < sums[y]:
            sums[y] = total
            back[y] = x
            fallen.append(y)
    return fallen


def settle(edges, sums, back):
    """Lowers sums to the least ones by going on from the names they hold; back tells whence a name's sum came.

    It comes to an end since no way back to its own beginning has a sum below
    nought. For the same reason going back by back never goes round: a sum is
    replaced by a lesser one alone, so a round of nought replaces none.
    """
    fallen = list(sums)
    while len(fallen) > 0:
        again = {}
        for x in fallen:
            for y in go_on(edges[x], x, sums, back):
                again[y] = True
        fallen = list(again)


def way_by(back, y):
    way = [y]
    while way[-1] in back:
        way.append(back[way[-1]])
    return list(reversed(way))


def spans(edges, x):
    refuse_unknown(edges, x)
    sums = {x: 0}
    settle(edges, sums, {})
    return sums


def road(edges, x, y):
    refuse_unknown(edges, x)
    refuse_unknown(edges, y)
    sums = {x: 0}
    back = {}
    settle(edges, sums, back)
    return way_by(back, y) if y in sums else None
