"""Plans: trees of knots that tell what is done in each case, and what comes of them."""

from lidprice.cases import Case
from lidprice.errors import NoPlan
from lidprice.patterns import need_pattern, set_of, with_box
from lidprice.shares import is_whole, times, whole
from lidprice.stands import need_boxes
from lidprice.tables import by_weights


class Plan:
    pass


class Stop(Plan):
    def told(self):
        return ("stop",)


class Take(Plan):
    def __init__(self, box, then):
        self.box = box
        self.then = then

    def told(self):
        return ("take", self.box, self.then.told())


class Open(Plan):
    def __init__(self, box, plans):
        self.box = box
        self.plans = tuple(plans)

    def told(self):
        return ("open", self.box, tuple([plan.told() for plan in self.plans]))


def way_to(case):
    return tuple([done[2] for done in case.deeds() if done[0] == "open"])


def may_keep(pattern, case, box):
    # Such a box need not stand at an end yet.
    kept = case.kept()
    return box not in kept and pattern.may(with_box(set_of(kept), box))


def has_number(case, box):
    return is_whole(box, 0, case.how_many() - 1)


def is_right_take(pattern, case, box):
    return has_number(case, box) and case.stand(box).is_end() and may_keep(pattern, case, box)


def is_right_open(case, box, many):
    if not has_number(case, box) or case.stand(box).is_end():
        return False
    return many == len(case.stand(box).rows)


def ends_from(pattern, case, part, knot):
    if isinstance(knot, Stop):
        return [(part, case)]
    if isinstance(knot, Take) and is_right_take(pattern, case, knot.box):
        return ends_from(pattern, case.taken(knot.box), part, knot.then)
    if isinstance(knot, Open) and is_right_open(case, knot.box, len(knot.plans)):
        stage = case.stand(knot.box)
        found = []
        for row, plan in enumerate(knot.plans):
            behind = case.opened(knot.box, row)
            found.extend(ends_from(pattern, behind, times(part, stage.row_share(row)), plan))
        return found
    raise NoPlan(way_to(case))


def ends_of(boxes, pattern, plan):
    need_boxes(boxes)
    need_pattern(pattern, len(boxes))
    return ends_from(pattern, Case(boxes), whole(1), plan)


def check_plan(boxes, pattern, plan):
    ends_of(boxes, pattern, plan)


def leaves(boxes, pattern, plan):
    ends = ends_of(boxes, pattern, plan)
    return [(way_to(case), part, tuple(case.kept()), case.had()) for part, case in ends]


def worth(boxes, pattern, plan):
    return by_weights([(part, case.had()) for part, case in ends_of(boxes, pattern, plan)], 1)
