"""Cases: how far boxes are opened, which of them are kept, and what that has cost and brought."""

from lidprice.errors import NoDeed
from lidprice.shares import is_whole, lesser, plus, whole
from lidprice.stands import need_boxes
from lidprice.tables import above, capped


def with_thing(things, place, thing):
    return things[:place] + (thing,) + things[place + 1:]


class Case:
    def __init__(self, boxes):
        need_boxes(boxes)
        self.present = tuple(boxes)
        self.lowest = tuple([None for box in boxes])
        self.held = tuple([False for box in boxes])
        self.spent = 0
        self.done = ()

    def how_many(self):
        return len(self.present)

    def need_box(self, box):
        if not is_whole(box, 0, self.how_many() - 1):
            raise NoDeed()

    def stand(self, box):
        self.need_box(box)
        return self.present[box]

    def cap(self, box):
        self.need_box(box)
        return self.lowest[box]

    def kept(self):
        return [box for box in range(self.how_many()) if self.held[box]]

    def paid(self):
        return self.spent

    def had(self):
        return sum([self.present[box].worth for box in self.kept()]) - self.spent

    def deeds(self):
        return list(self.done)

    def caps(self, box):
        table = self.stand(box).caps()
        cap = self.cap(box)
        return table if cap is None else capped(table, cap)

    def debt(self, box):
        cap = self.cap(box)
        return whole(0) if cap is None else above(self.stand(box).caps(), cap)

    def left(self):
        debts = whole(0)
        for box in range(self.how_many()):
            if not self.held[box]:
                debts = plus(debts, self.debt(box))
        return debts

    def behind(self, deed):
        case = Case(list(self.present))
        case.lowest = self.lowest
        case.held = self.held
        case.spent = self.spent
        case.done = self.done + (deed,)
        return case

    def opened(self, box, row):
        stage = self.stand(box)
        if stage.is_end() or not is_whole(row, 0, len(stage.rows) - 1):
            raise NoDeed()
        cap = self.cap(box)
        lower = stage.reserve() if cap is None else lesser(cap, stage.reserve())
        case = self.behind(("open", box, row))
        case.present = with_thing(self.present, box, stage.after(row))
        case.lowest = with_thing(self.lowest, box, lower)
        case.spent = self.spent + stage.price
        return case

    def taken(self, box):
        if not self.stand(box).is_end() or self.held[box]:
            raise NoDeed()
        case = self.behind(("take", box))
        case.held = with_thing(self.held, box, True)
        return case
