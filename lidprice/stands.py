"""Stands: ends with a worth, and stages that cost a price to open and lead to one of their rows."""

from lidprice.errors import NoBox
from lidprice.shares import greater, is_whole, lesser, plus, share, times, whole
from lidprice.tables import MOST_WEIGHT, MOST_WORTH, capped, level_for, mixed

MOST_PRICE = 1000000000
MOST_STAGE_ROWS = 4
MOST_STAGES = 4
MOST_ENDS = 12
MOST_BOXES = 6


class Stand:
    # No stand ever changes, so what is asked of it often is reckoned once, when it is made.
    def __init__(self, end_count, stage_count, level, cap_rows):
        self.end_count = end_count
        self.stage_count = stage_count
        self.level = level
        self.cap_rows = tuple(cap_rows)

    def ends(self):
        return self.end_count

    def stages(self):
        return self.stage_count

    def reserve(self):
        return self.level

    def caps(self):
        return list(self.cap_rows)


class End(Stand):
    def __init__(self, worth):
        if not is_whole(worth, 0, MOST_WORTH):
            raise NoBox()
        Stand.__init__(self, 1, 0, whole(worth), [(whole(worth), 1)])
        self.worth = worth

    def is_end(self):
        return True

    def ways(self):
        return [((), whole(1), self.reserve(), self.worth)]

    def beside(self, level):
        return greater(level, self.reserve())

    def told(self):
        return ("end", self.worth)


class Stage(Stand):
    def __init__(self, price, rows):
        if not is_whole(price, 0, MOST_PRICE) or not is_stage_rows(rows):
            raise NoBox()
        end_count = sum([stand.ends() for weight, stand in rows])
        stage_count = 1 + max([stand.stages() for weight, stand in rows])
        if end_count > MOST_ENDS or stage_count > MOST_STAGES:
            raise NoBox()
        behind = mixed([(weight, stand.caps()) for weight, stand in rows])
        level = level_for(behind, price)
        Stand.__init__(self, end_count, stage_count, level, capped(behind, level))
        self.price = price
        self.rows = tuple(rows)

    def is_end(self):
        return False

    def row_share(self, row):
        return share(self.rows[row][0], sum([weight for weight, stand in self.rows]))

    def after(self, row):
        return self.rows[row][1]

    def ways(self):
        found = []
        for row in range(len(self.rows)):
            first = self.row_share(row)
            for way, part, cap, worth in self.after(row).ways():
                found.append(((row,) + way, times(first, part), lesser(self.reserve(), cap), worth))
        return found

    def beside(self, level):
        opening = whole(-self.price)
        for row in range(len(self.rows)):
            opening = plus(opening, times(self.row_share(row), self.after(row).beside(level)))
        return greater(level, opening)

    def told(self):
        return ("stage", self.price, tuple([(weight, stand.told()) for weight, stand in self.rows]))


def is_stand(thing):
    return isinstance(thing, End) or isinstance(thing, Stage)


def is_stage_row(row):
    if not isinstance(row, tuple) or len(row) != 2:
        return False
    return is_whole(row[0], 1, MOST_WEIGHT) and is_stand(row[1])


def is_stage_rows(rows):
    if not isinstance(rows, list) or not 1 <= len(rows) <= MOST_STAGE_ROWS:
        return False
    return all([is_stage_row(row) for row in rows])


def need_boxes(boxes):
    if not isinstance(boxes, list) or not 1 <= len(boxes) <= MOST_BOXES:
        raise NoBox()
    if not all([is_stand(box) for box in boxes]):
        raise NoBox()
