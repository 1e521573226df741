"""The best that boxes have by a pattern, the deed by prices, and the plan that has the best."""

from lidprice.cases import Case
from lidprice.errors import TooMany
from lidprice.patterns import chosen, need_pattern, set_of, with_box
from lidprice.plans import Open, Stop, Take, may_keep
from lidprice.shares import below, total, whole
from lidprice.stands import need_boxes
from lidprice.tables import all_weights, by_weights, greatest, mean, product

MOST_UNFOLDINGS = 300


def unfoldings(boxes):
    need_boxes(boxes)
    return product([box.ends() for box in boxes])


def need_few_unfoldings(boxes):
    many = unfoldings(boxes)
    if many > MOST_UNFOLDINGS:
        raise TooMany(many)


def lets_two(pattern, many):
    # Without a flaw a pattern that has a greater set has a pair of its boxes too.
    for one in range(many):
        for other in range(one):
            if pattern.may(set_of([one, other])):
                return True
    return False


def need_best(pattern, case):
    many = case.how_many()
    if lets_two(pattern, many):
        need_few_unfoldings([case.stand(box) for box in range(many)])


def best_with_one(pattern, tables):
    lone = [table for box, table in enumerate(tables) if pattern.may(with_box(0, box))]
    return mean(greatest(lone + [[(whole(0), 1)]]))


def unfolded(tables):
    found = [([], 1)]
    for table in tables:
        longer = []
        for caps, weight in found:
            longer.extend([(caps + [cap], weight * own) for cap, own in table])
        found = longer
    return found


def greatest_sum(pattern, caps):
    # Without a flaw no set of the pattern has more than the boxes chosen by falling caps.
    return total([caps[box] for box in chosen(pattern, caps)])


def best_with_several(pattern, tables):
    sums = [(greatest_sum(pattern, caps), weight) for caps, weight in unfolded(tables)]
    return by_weights(sums, product([all_weights(table) for table in tables]))


def best_in(pattern, case):
    many = case.how_many()
    tables = [case.caps(box) for box in range(many)]
    if lets_two(pattern, many):
        return best_with_several(pattern, tables)
    return best_with_one(pattern, tables)


def best_from(pattern, case):
    need_pattern(pattern, case.how_many())
    need_best(pattern, case)
    return best_in(pattern, case)


def best(boxes, pattern):
    return best_from(pattern, Case(boxes))


def dearest(pattern, case):
    first = None
    for box in range(case.how_many()):
        if may_keep(pattern, case, box):
            if first is None or below(case.stand(first).reserve(), case.stand(box).reserve()):
                first = box
    return first


def deed_in(pattern, case):
    box = dearest(pattern, case)
    if box is None or not below(whole(0), case.stand(box).reserve()):
        return ("stop",)
    return ("take", box) if case.stand(box).is_end() else ("open", box)


def deed(pattern, case):
    need_pattern(pattern, case.how_many())
    return deed_in(pattern, case)


def plan_from(pattern, case):
    told = deed_in(pattern, case)
    if told[0] == "stop":
        return Stop()
    box = told[1]
    if told[0] == "take":
        return Take(box, plan_from(pattern, case.taken(box)))
    many = len(case.stand(box).rows)
    return Open(box, [plan_from(pattern, case.opened(box, row)) for row in range(many)])


def plan_by_prices(boxes, pattern):
    need_boxes(boxes)
    need_pattern(pattern, len(boxes))
    need_few_unfoldings(boxes)
    return plan_from(pattern, Case(boxes))
