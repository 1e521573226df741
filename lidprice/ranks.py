"""Ranks alone: offers of which it is told only whether each is better than all ahead of it."""

from lidprice.errors import NoRanks
from lidprice.shares import below, greater, is_whole, minus, over, plus, share, times, total, whole

MOST_RANKS = 60


def need_many(many):
    if not is_whole(many, 1, MOST_RANKS):
        raise NoRanks()


def is_places(places, many):
    if not isinstance(places, list) or not all([is_whole(place, 1, many) for place in places]):
        return False
    return places == sorted(set(places))


def need_places(many, places):
    need_many(many)
    if not is_places(places, many):
        raise NoRanks()


def first_better(many, gone):
    need_many(many)
    if not is_whole(gone, 0, many - 1):
        raise NoRanks()
    if gone == 0:
        return share(1, many)
    # The best of all, at a place, is taken just where the best of those ahead of it is among those gone by.
    return times(share(gone, many), total([share(1, place - 1) for place in range(gone + 1, many + 1)]))


def best_gone(many):
    need_many(many)
    found = 0
    for gone in range(1, many):
        if below(first_better(many, found), first_better(many, gone)):
            found = gone
    return found


def rank_worths(many):
    need_many(many)
    found = [whole(0)]
    for place in range(many, 0, -1):
        later = found[0]
        here = over(greater(share(place, many), later), whole(place))
        found = [plus(here, times(later, share(place - 1, place)))] + found
    return found


def reached_places(many, places):
    # An offer at a place is the best so far by 1 in that place, however the ones ahead of it stand.
    reached = whole(1)
    found = []
    for place in range(1, many + 1):
        found.append(reached)
        if place in places:
            reached = times(reached, share(place - 1, place))
    return found


def share_by(many, places):
    need_places(many, places)
    reached = reached_places(many, places)
    return times(share(1, many), total([reached[place - 1] for place in places]))


def rank_losses(many, places):
    need_places(many, places)
    worths = rank_worths(many)
    reached = reached_places(many, places)
    found = []
    for place in range(1, many + 1):
        taken = share(place, many)
        later = worths[place]
        lack = minus(greater(taken, later), taken if place in places else later)
        found.append((reached[place - 1], over(lack, whole(place))))
    return found
