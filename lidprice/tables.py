"""Tables of worths: lists of rows (worth, weight), the worths rising, the weights in lowest terms."""

from lidprice.errors import NoTable
from lidprice.shares import below, common_divisor, common_multiple, is_whole, lesser, share, whole

MOST_ROWS = 8
MOST_WORTH = 1000000000
MOST_WEIGHT = 1000


def is_row(row):
    if not isinstance(row, tuple) or len(row) != 2:
        return False
    return is_whole(row[0], 0, MOST_WORTH) and is_whole(row[1], 1, MOST_WEIGHT)


def is_rows(rows):
    if not isinstance(rows, list) or not 1 <= len(rows) <= MOST_ROWS:
        return False
    return all([is_row(row) for row in rows])


def rising(worths):
    # Unlike fractions lie at least 1 by the product of their bottoms apart. So, scaled
    # by the square of the greatest bottom, they stay apart when they are rounded down.
    most = max([worth[1] for worth in worths])
    scale = most * most
    return sorted(worths, key=lambda worth: worth[0] * scale // worth[1])


def in_form(rows):
    weights = {}
    for worth, weight in rows:
        weights[worth] = weights.get(worth, 0) + weight
    divisor = 0
    for worth in weights:
        divisor = common_divisor(divisor, weights[worth])
    return [(worth, weights[worth] // divisor) for worth in rising(list(weights))]


def table_of(rows):
    if not is_rows(rows):
        raise NoTable()
    return in_form([(whole(worth), weight) for worth, weight in rows])


def all_weights(table):
    return sum([weight for worth, weight in table])


def by_weights(rows, weights):
    # The sum is brought to lowest terms once, at its end: with bottoms of many
    # figures, doing so behind each row would take far longer.
    bottom = common_multiple([worth[1] for worth, weight in rows])
    top = sum([weight * worth[0] * (bottom // worth[1]) for worth, weight in rows])
    return share(top, bottom * weights)


def mean(table):
    return by_weights(table, all_weights(table))


def above(table, level):
    higher = [(worth, weight) for worth, weight in table if below(level, worth)]
    return by_weights(higher + [(level, -all_weights(higher))], all_weights(table))


def share_from(table, level):
    reached = sum([weight for worth, weight in table if not below(worth, level)])
    return share(reached, all_weights(table))


def capped(table, level):
    return in_form([(lesser(worth, level), weight) for worth, weight in table])


def mixed(rows):
    # Weights of unlike tables count together only when all tables weigh the same.
    scale = common_multiple([all_weights(table) for weight, table in rows])
    parts = []
    for weight, table in rows:
        factor = weight * (scale // all_weights(table))
        parts.extend([(worth, factor * inner) for worth, inner in table])
    return in_form(parts)


def worths_of(tables):
    worths = {}
    for table in tables:
        for worth, weight in table:
            worths[worth] = True
    return rising(list(worths))


def product(numbers):
    result = 1
    for number in numbers:
        result = result * number
    return result


def greatest(tables):
    # The greatest is at most a worth just where each table's worth is; so going up
    # through the worths, the product of the weights up to each of them is enough.
    weights = [dict(table) for table in tables]
    reached = [0 for table in tables]
    behind = 0
    rows = []
    for worth in worths_of(tables):
        reached = [so_far + own.get(worth, 0) for so_far, own in zip(reached, weights)]
        together = product(reached)
        if together > behind:
            rows.append((worth, together - behind))
        behind = together
    return in_form(rows)


def level_for(table, price):
    # Row by row from the greatest worth down: the level above which the rows so far
    # have just the price is that of the table once no further worth is above it.
    bottom = common_multiple([worth[1] for worth, weight in table])
    tops = -price * all_weights(table) * bottom
    weights = 0
    for worth, weight in reversed(table):
        top = worth[0] * (bottom // worth[1])
        if weights > 0 and top * weights <= tops:
            break
        tops = tops + weight * top
        weights = weights + weight
    return share(tops, weights * bottom)
