"""Programs: read from their texts, and shown as these again."""

from surejoin.checks import check_kinds, check_names
from surejoin.errors import NoNest, TooMuch
from surejoin.lines import read_line, shown_line
from surejoin.readers import Reader
from surejoin.statements import shown_job, taken_job

MOST_LINES = 150
KIND_WORDS = ("most", "set", "once", "row", "map")


def taken_boxes(lines):
    boxes = []
    while lines.ahead()[0] in KIND_WORDS:
        line = lines.take()
        boxes.append((line[0], line[2]))
    return boxes


def taken_jobs(lines):
    jobs = []
    while lines.ahead()[0] == "job":
        jobs.append(taken_job(lines))
    return jobs


def taken_asks(lines):
    asks = []
    while lines.ahead()[0] == "ask":
        line = lines.take()
        asks.append((line[1], line[2]))
    return asks


def nested(lines):
    # Behind the last line stands none: one that fits nowhere.
    reader = Reader(lines, ("", len(lines) + 1))
    boxes = taken_boxes(reader)
    jobs = taken_jobs(reader)
    asks = taken_asks(reader)
    if not reader.is_over():
        number = reader.ahead()[1]
        raise NoNest(f"line {number}: it may not stand here")
    return (boxes, jobs, asks)


def read(text):
    texts = text.split("\n")
    if len(texts) > MOST_LINES:
        raise TooMuch(f"a text has more than {MOST_LINES} lines")
    # Each sort of fault is looked for in the whole text ahead of the next one.
    lines = [read_line(line, number) for number, line in enumerate(texts, start=1)]
    program = nested(lines)
    check_names(program)
    check_kinds(program)
    return program


def shown(program):
    texts = [shown_line((box[0], 0, box[1])) for box in program[0]]
    for job in program[1]:
        texts.extend(shown_job(job))
    texts.extend([shown_line(("ask", ask[0], ask[1])) for ask in program[2]])
    return "\n".join(texts)
