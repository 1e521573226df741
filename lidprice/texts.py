"""Boxes, patterns, plans and fractions as texts, and how such texts are read again."""

from lidprice.errors import NoBox, NoSets, NoText
from lidprice.patterns import Few, Groups, Listed
from lidprice.plans import Open, Stop, Take
from lidprice.stands import MOST_BOXES, MOST_STAGE_ROWS, MOST_STAGES, End, Stage

FIGURES = "0123456789"
# The greatest number that is ever read, 10 ** 9, has ten figures.
MOST_FIGURES = 10
MOST_KNOTS = 40


def write_whole(number):
    # Python refuses to write some thousands of figures at once, so they are written by sixties.
    part = 10 ** 60
    figures = ""
    rest = abs(number)
    while rest >= part:
        figures = str(rest % part).zfill(60) + figures
        rest = rest // part
    sign = "-" if number < 0 else ""
    return sign + str(rest) + figures


def write_share(fraction):
    top = write_whole(fraction[0])
    return top if fraction[1] == 1 else top + "/" + write_whole(fraction[1])


def write_wholes(numbers):
    return " ".join([write_whole(number) for number in numbers])


def write_box(stand):
    if stand.is_end():
        return write_whole(stand.worth)
    rows = " ".join([write_whole(weight) + ":" + write_box(after) for weight, after in stand.rows])
    return write_whole(stand.price) + "[" + rows + "]"


def write_boxes(boxes):
    return " | ".join([write_box(box) for box in boxes])


def write_pattern(pattern):
    told = pattern.told()
    if told[0] == "few":
        return "few " + write_whole(told[1])
    if told[0] == "groups":
        return "groups " + write_wholes(told[1]) + " / " + write_wholes(told[2])
    return "listed " + write_wholes(told[1])


def write_plan(plan):
    if isinstance(plan, Stop):
        return "stop"
    box = write_whole(plan.box)
    if isinstance(plan, Take):
        return "take " + box + " " + write_plan(plan.then)
    return "open " + box + " (" + ", ".join([write_plan(then) for then in plan.plans]) + ")"


class Reader:
    def __init__(self, text):
        if not isinstance(text, str):
            raise NoText()
        self.text = text
        self.place = 0

    def comes(self, signs):
        return self.text[self.place:self.place + len(signs)] == signs

    def passes(self, signs):
        if not self.comes(signs):
            return False
        self.place = self.place + len(signs)
        return True

    def need(self, signs):
        if not self.passes(signs):
            raise NoText()

    def at_end(self):
        return self.place == len(self.text)

    def need_end(self):
        if not self.at_end():
            raise NoText()

    def number(self):
        first = self.place
        while not self.at_end() and self.text[self.place] in FIGURES:
            self.place = self.place + 1
        figures = self.text[first:self.place]
        if not 1 <= len(figures) <= MOST_FIGURES or (figures[0] == "0" and figures != "0"):
            raise NoText()
        return int(figures)

    def numbers(self):
        found = [self.number()]
        # A blank ahead of a / ends the first list of groups; behind any other one a number has to follow.
        while self.comes(" ") and not self.comes(" /"):
            self.need(" ")
            found.append(self.number())
        return found


def read_row(reader, stages):
    weight = reader.number()
    reader.need(":")
    return (weight, read_stand(reader, stages))


def read_stand(reader, stages):
    # Rows and stages are bounded as they come, so that no text leads deeper than a stand may go.
    number = reader.number()
    if not reader.passes("["):
        return End(number)
    if stages == 0:
        raise NoText()
    rows = [read_row(reader, stages - 1)]
    while len(rows) < MOST_STAGE_ROWS and reader.passes(" "):
        rows.append(read_row(reader, stages - 1))
    reader.need("]")
    return Stage(number, rows)


def read_boxes(text):
    reader = Reader(text)
    try:
        boxes = [read_stand(reader, MOST_STAGES)]
        while len(boxes) < MOST_BOXES and reader.passes(" | "):
            boxes.append(read_stand(reader, MOST_STAGES))
    except NoBox:
        raise NoText()
    reader.need_end()
    return boxes


def read_box(text):
    boxes = read_boxes(text)
    if len(boxes) > 1:
        raise NoText()
    return boxes[0]


def read_listed(reader):
    sets = reader.numbers()
    if sets != sorted(sets):
        raise NoText()
    return Listed(sets)


def read_groups(reader):
    groups = reader.numbers()
    reader.need(" / ")
    return Groups(groups, reader.numbers())


def read_sort(reader):
    if reader.passes("few "):
        return Few(reader.number())
    if reader.passes("groups "):
        return read_groups(reader)
    reader.need("listed ")
    return read_listed(reader)


def read_pattern(text):
    reader = Reader(text)
    try:
        pattern = read_sort(reader)
    except NoSets:
        raise NoText()
    reader.need_end()
    return pattern


def read_number_of_box(reader):
    box = reader.number()
    if box >= MOST_BOXES:
        raise NoText()
    reader.need(" ")
    return box


def read_plans(reader, knots):
    plans = [read_knot(reader, knots)]
    while len(plans) < MOST_STAGE_ROWS and reader.passes(", "):
        plans.append(read_knot(reader, knots))
    return plans


def read_knot(reader, knots):
    # The knots that may still come on this way are counted down, so that no text leads too deep.
    if knots == 0:
        raise NoText()
    if reader.passes("stop"):
        return Stop()
    if reader.passes("take "):
        box = read_number_of_box(reader)
        return Take(box, read_knot(reader, knots - 1))
    reader.need("open ")
    box = read_number_of_box(reader)
    reader.need("(")
    plans = read_plans(reader, knots - 1)
    reader.need(")")
    return Open(box, plans)


def read_plan(text):
    reader = Reader(text)
    plan = read_knot(reader, MOST_KNOTS)
    reader.need_end()
    return plan
