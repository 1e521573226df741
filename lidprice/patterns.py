"""Patterns: which sets of boxes may be kept together. Bit k of a set, a whole number, tells whether it has box k."""

from lidprice.errors import NoPattern, NoSets
from lidprice.shares import below, is_whole, whole
from lidprice.stands import MOST_BOXES

MOST_SETS = 64


def has_box(kept, box):
    return (kept >> box) & 1 == 1


def boxes_of(kept):
    return [box for box in range(MOST_BOXES) if has_box(kept, box)]


def size_of(kept):
    return len(boxes_of(kept))


def with_box(kept, box):
    return kept | (1 << box)


def set_of(boxes):
    return sum([1 << box for box in boxes])


def is_numbers(things, fewest, most, greatest_number):
    if not isinstance(things, list) or not fewest <= len(things) <= most:
        return False
    return all([is_whole(thing, 0, greatest_number) for thing in things])


class Pattern:
    pass


class Few(Pattern):
    def __init__(self, count):
        if not is_whole(count, 0, MOST_BOXES):
            raise NoSets()
        self.limit = count

    def may(self, kept):
        return size_of(kept) <= self.limit

    def told(self):
        return ("few", self.limit)


class Groups(Pattern):
    def __init__(self, groups, most):
        if not is_numbers(groups, 1, MOST_BOXES, MOST_BOXES - 1):
            raise NoSets()
        if not is_numbers(most, MOST_BOXES, MOST_BOXES, MOST_BOXES):
            raise NoSets()
        self.groups = tuple(groups)
        self.most = tuple(most)

    def may(self, kept):
        boxes = boxes_of(kept)
        if not all([box < len(self.groups) for box in boxes]):
            return False
        groups = [self.groups[box] for box in boxes]
        return all([groups.count(group) <= self.most[group] for group in groups])

    def told(self):
        return ("groups", self.groups, self.most)


class Listed(Pattern):
    def __init__(self, sets):
        if not is_numbers(sets, 1, MOST_SETS, MOST_SETS - 1) or len(set(sets)) != len(sets):
            raise NoSets()
        self.sets = tuple(sorted(sets))

    def may(self, kept):
        return kept in self.sets

    def told(self):
        return ("listed", self.sets)


def is_pattern(thing):
    return isinstance(thing, Few) or isinstance(thing, Groups) or isinstance(thing, Listed)


def less_flaw(lets):
    for one in range(len(lets)):
        for box in boxes_of(one):
            other = one - (1 << box)
            if lets[one] and not lets[other]:
                return ("less", one, other)
    return None


def can_grow(lets, one, other):
    return any([lets[with_box(other, box)] for box in boxes_of(one) if not has_box(other, box)])


def sets_by_size(lets):
    by_size = [[] for size in range(MOST_BOXES + 1)]
    for kept in range(len(lets)):
        if lets[kept]:
            by_size[size_of(kept)].append(kept)
    return by_size


def more_flaw(lets):
    by_size = sets_by_size(lets)
    for size in range(MOST_BOXES):
        for other in by_size[size]:
            for one in by_size[size + 1]:
                if not can_grow(lets, one, other):
                    return ("more", one, other)
    return None


def flaw(pattern, many):
    lets = [pattern.may(kept) for kept in range(1 << many)]
    if not lets[0]:
        return ("empty", 0, 0)
    less = less_flaw(lets)
    return more_flaw(lets) if less is None else less


def falling(worths):
    order = []
    for box in range(len(worths)):
        # Of equal ones the least number goes first, so a box passes only those with less.
        place = len(order)
        while place > 0 and below(worths[order[place - 1]], worths[box]):
            place = place - 1
        order.insert(place, box)
    return order


def chosen(pattern, worths):
    kept = 0
    for box in falling(worths):
        if below(whole(0), worths[box]) and pattern.may(with_box(kept, box)):
            kept = with_box(kept, box)
    return boxes_of(kept)


def short_worth(one, other, box):
    if has_box(other, box):
        return size_of(other) + 2
    return size_of(other) + 1 if has_box(one, box) else 0


def short_worths(one, other, many):
    return [short_worth(one, other, box) for box in range(many)]


def need_pattern(pattern, many):
    if not is_pattern(pattern):
        raise NoSets()
    found = flaw(pattern, many)
    if found is not None:
        raise NoPattern(found[1], found[2])
