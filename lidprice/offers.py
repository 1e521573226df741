"""Offers that pass: they come one by one, and each is taken at once or gone."""

from lidprice.errors import NoOffers, NoRule
from lidprice.shares import below, greater, is_whole, minus, plus, share, times, total, whole
from lidprice.tables import (above, all_weights, by_weights, greatest, is_rows, mean, product, share_from, table_of,
                             worths_of)

MOST_OFFERS = 8
MOST_NEAR_HALF = 1000


def is_lists(lists):
    if not isinstance(lists, list) or not 1 <= len(lists) <= MOST_OFFERS:
        return False
    return all([is_rows(rows) for rows in lists])


def is_order(order, many):
    if not isinstance(order, list) or len(order) != many:
        return False
    return all([is_whole(offer, 0, many - 1) for offer in order]) and len(set(order)) == many


def is_truths(truths, many):
    if not isinstance(truths, list) or len(truths) != many:
        return False
    return all([isinstance(truth, bool) for truth in truths])


def is_rule(rule, tables):
    if not isinstance(rule, list) or len(rule) != len(tables):
        return False
    return all([is_truths(truths, len(table)) for truths, table in zip(rule, tables)])


def share_below(table, level):
    return minus(whole(1), share_from(table, level))


def all_together(shares):
    found = whole(1)
    for part in shares:
        found = times(found, part)
    return found


def mean_of_some(table, truths):
    # What the rows that are taken bring, in the mean over all rows of the table.
    taken = [row for row, truth in zip(table, truths) if truth]
    return by_weights(taken, all_weights(table))


def share_of_some(table, truths):
    taken = [row for row, truth in zip(table, truths) if truth]
    return share(all_weights(taken), all_weights(table))


def mean_by(tables, rule):
    # What is had by going through the tables in their order and taking by these truths.
    found = whole(0)
    reached = whole(1)
    for table, truths in zip(tables, rule):
        found = plus(found, times(reached, mean_of_some(table, truths)))
        reached = times(reached, minus(whole(1), share_of_some(table, truths)))
    return found


def truths_from(table, level):
    return [not below(worth, level) for worth, weight in table]


def moment_loss(table, truths, worth_on):
    weights = all_weights(table)
    most = [(greater(worth, worth_on), weight) for worth, weight in table]
    own = [(row[0] if truth else worth_on, row[1]) for row, truth in zip(table, truths)]
    return minus(by_weights(most, weights), by_weights(own, weights))


class Offers:
    def __init__(self, lists):
        if not is_lists(lists):
            raise NoOffers()
        self.kinds = tuple([tuple(table_of(rows)) for rows in lists])

    def tables(self):
        return [list(table) for table in self.kinds]

    def top_mean(self):
        return mean(greatest(self.tables()))

    def half(self):
        return times(self.top_mean(), share(1, 2))

    def first_taken(self, order, level):
        if not is_order(order, len(self.kinds)):
            raise NoRule()
        tables = [self.kinds[offer] for offer in order]
        return mean_by(tables, [truths_from(table, level) for table in tables])

    def least_taken(self, level):
        # Going up through the worths from the level on: the least such worth is a further one
        # as long as each offer is below the level or above all worths so far.
        weights = [dict(table) for table in self.kinds]
        still = [all_weights(table) for table in self.kinds]
        together = product(still)
        ahead = together
        rows = []
        for worth in worths_of(self.kinds):
            if not below(worth, level):
                still = [so_far - own.get(worth, 0) for so_far, own in zip(still, weights)]
                rows.append((worth, ahead - product(still)))
                ahead = product(still)
        return by_weights(rows, together)

    def half_paper(self):
        level = self.half()
        shares = [share_below(table, level) for table in self.kinds]
        none = all_together(shares)
        rows = []
        for offer, table in enumerate(self.kinds):
            rows.append((above(table, level), all_together(shares[:offer] + shares[offer + 1:])))
        sums = [times(higher, alone) for higher, alone in rows]
        return (level, none, rows, plus(times(level, minus(whole(1), none)), total(sums)))

    def worths_on(self):
        found = [whole(0)]
        for table in reversed(self.kinds):
            rows = [(greater(worth, found[0]), weight) for worth, weight in table]
            found = [by_weights(rows, all_weights(table))] + found
        return found

    def need_rule(self, rule):
        if not is_rule(rule, self.kinds):
            raise NoRule()

    def taken_by(self, rule):
        self.need_rule(rule)
        return mean_by(self.kinds, rule)

    def rule_losses(self, rule):
        self.need_rule(rule)
        worths = self.worths_on()
        reached = whole(1)
        found = []
        for offer, table in enumerate(self.kinds):
            found.append((reached, moment_loss(table, rule[offer], worths[offer + 1])))
            reached = times(reached, minus(whole(1), share_of_some(table, rule[offer])))
        return found


def near_half(many):
    if not is_whole(many, 2, MOST_NEAR_HALF):
        raise NoOffers()
    return [[(1, 1)], [(0, many - 1), (many, 1)]]
