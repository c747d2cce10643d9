"""Statements: lines nested into jobs by their ends, gone through one by one, and shown as lines again."""

from surejoin.errors import NoNest
from surejoin.lines import shown_line

MOST_AROUND = 4
STATEMENT_WORDS = ("let", "put", "wait", "get", "tell", "if", "while", "begin", "stop")


def taken_end(lines, number):
    line = lines.take()
    there = line[1]
    if line[0] != "end":
        raise NoNest(f"line {there}: an end ought to stand here, to close what line {number} opened")
    return there


def taken_if(lines, line, around):
    yes = taken_body(lines, around)
    no = None
    if lines.ahead()[0] == "else":
        lines.take()
        no = taken_body(lines, around)
    taken_end(lines, line[1])
    return line + (yes, no)


def taken_while(lines, line, around):
    body = taken_body(lines, around)
    taken_end(lines, line[1])
    return line + (body,)


def taken_statement(lines, around):
    line = lines.take()
    if line[0] != "if" and line[0] != "while":
        return line
    number = line[1]
    if around >= MOST_AROUND:
        raise NoNest(f"line {number}: it stands within {around} others")
    if line[0] == "if":
        return taken_if(lines, line, around + 1)
    return taken_while(lines, line, around + 1)


def taken_body(lines, around):
    body = []
    while lines.ahead()[0] in STATEMENT_WORDS:
        body.append(taken_statement(lines, around))
    return body


def taken_job(lines):
    line = lines.take()
    body = taken_body(lines, 0)
    last = taken_end(lines, line[1])
    return (line[2], line[3], body, line[1], last)


def statements_in(body):
    """All statements of a body, those within others too, by rising lines."""
    statements = []
    for statement in body:
        statements.append(statement)
        if statement[0] == "while":
            statements.extend(statements_in(statement[3]))
        if statement[0] == "if":
            statements.extend(statements_in(statement[3]))
            statements.extend([] if statement[4] is None else statements_in(statement[4]))
    return statements


def shown_inside(statement):
    if statement[0] == "while":
        return shown_body(statement[3]) + ["end"]
    if statement[0] != "if":
        return []
    texts = shown_body(statement[3])
    if statement[4] is not None:
        texts.append("else")
        texts.extend(shown_body(statement[4]))
    return texts + ["end"]


def shown_body(body):
    texts = []
    for statement in body:
        texts.append(shown_line(statement))
        texts.extend(shown_inside(statement))
    return texts


def shown_job(job):
    first = shown_line(("job", job[3], job[0], job[1]))
    return [first] + shown_body(job[2]) + ["end"]
