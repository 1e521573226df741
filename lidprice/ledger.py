"""Ledgers: what a plan has at each of its leaves, and what is left and missed there."""

from lidprice.best import best_in, need_best
from lidprice.cases import Case
from lidprice.plans import ends_of, way_to
from lidprice.shares import below, minus, plus, times, total, whole


def missed_in(pattern, case):
    return minus(best_in(pattern, case), total([case.caps(box)[0][0] for box in case.kept()]))


def ledger(boxes, pattern, plan):
    ends = ends_of(boxes, pattern, plan)
    need_best(pattern, Case(boxes))
    return [(way_to(case), part, case.had(), case.left(), missed_in(pattern, case)) for part, case in ends]


def is_above_nought(fraction):
    return below(whole(0), fraction)


def losses(boxes, pattern, plan):
    found = []
    for way, part, had, left, missed in ledger(boxes, pattern, plan):
        if is_above_nought(left) or is_above_nought(missed):
            found.append((way, left, missed))
    return found


def lost(boxes, pattern, plan):
    rows = ledger(boxes, pattern, plan)
    return total([times(part, plus(left, missed)) for way, part, had, left, missed in rows])


def is_ledger_row(part, left, missed):
    return is_above_nought(part) and not below(left, whole(0)) and not below(missed, whole(0))


def adds_up(worth, rows):
    if not all([is_ledger_row(part, left, missed) for way, part, had, left, missed in rows]):
        return False
    if total([part for way, part, had, left, missed in rows]) != whole(1):
        return False
    sums = [times(part, total([whole(had), left, missed])) for way, part, had, left, missed in rows]
    return total(sums) == worth
