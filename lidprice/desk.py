"""The desk: it is told rows, texts, one at a time, and answers each of them."""

from lidprice.best import best_from, deed, need_best
from lidprice.cases import Case
from lidprice.errors import NoDeed, NoText
from lidprice.ledger import missed_in
from lidprice.patterns import Few, need_pattern
from lidprice.plans import may_keep
from lidprice.texts import Reader, read_boxes, read_pattern, write_share, write_whole

BARE = ("best", "next", "stop")
NUMBERED = {"price": 1, "open": 2, "take": 1}
# Boxes and rows are written in at most nine figures.
MOST_NUMBER = 999999999


def read_numbers(text, many):
    reader = Reader(text)
    numbers = reader.numbers()
    reader.need_end()
    if len(numbers) != many or max(numbers) > MOST_NUMBER:
        raise NoText()
    return numbers


def read_told(row):
    if not isinstance(row, str):
        raise NoText()
    if row in BARE:
        return (row, None)
    parts = row.partition(" ")
    if parts[0] == "boxes":
        return ("boxes", read_boxes(parts[2]))
    if parts[0] == "pattern":
        return ("pattern", read_pattern(parts[2]))
    if parts[0] in NUMBERED:
        return (parts[0], read_numbers(parts[2], NUMBERED[parts[0]]))
    raise NoText()


class Desk:
    def __init__(self):
        # The case is None as long as there are no boxes, and behind a stop.
        self.first = None
        self.case = None
        self.pattern = None

    def say(self, row):
        told = read_told(row)
        if told[0] == "boxes":
            return self.put_boxes(told[1])
        if self.case is None:
            raise NoDeed()
        if told[0] == "pattern":
            return self.put_pattern(told[1])
        if told[1] is None:
            return self.answer_bare(told[0])
        return self.answer_numbered(told[0], told[1])

    def answer_bare(self, word):
        if word == "best":
            return write_share(best_from(self.pattern, self.first))
        if word == "next":
            return self.tell_next()
        return self.end()

    def answer_numbered(self, word, numbers):
        if word == "price":
            return write_share(self.case.stand(numbers[0]).reserve())
        if word == "open":
            return self.go_on(self.case.opened(numbers[0], numbers[1]))
        return self.keep(numbers[0])

    def put_boxes(self, boxes):
        self.first = Case(boxes)
        self.case = self.first
        self.pattern = Few(1)
        return "ok " + write_whole(len(boxes))

    def put_pattern(self, pattern):
        if len(self.case.deeds()) > 0:
            raise NoDeed()
        need_pattern(pattern, self.case.how_many())
        self.pattern = pattern
        return "ok"

    def tell_next(self):
        told = deed(self.pattern, self.case)
        return told[0] if told[0] == "stop" else told[0] + " " + write_whole(told[1])

    def tell_had(self):
        return "had " + write_whole(self.case.had())

    def go_on(self, case):
        self.case = case
        return self.tell_had()

    def keep(self, box):
        behind = self.case.taken(box)
        if not may_keep(self.pattern, self.case, box):
            raise NoDeed()
        return self.go_on(behind)

    def end(self):
        need_best(self.pattern, self.case)
        missed = missed_in(self.pattern, self.case)
        answer = self.tell_had() + " left " + write_share(self.case.left()) + " missed " + write_share(missed)
        self.case = None
        return answer
