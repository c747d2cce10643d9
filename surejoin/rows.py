"""Jobs made into rows: ifs and whiles become splits and jumps that lead to rows by their numbers."""


def copied(statement):
    # A statement's own lists stay with its job: rows that are changed may not change it.
    return tuple([list(part) if isinstance(part, list) else part for part in statement])


def rows_of_if(statement, first):
    line = statement[1]
    yes = rows_of_body(statement[3], first + 1)
    behind = first + 1 + len(yes)
    if statement[4] is None:
        return [("split", line, statement[2], behind)] + yes
    no = rows_of_body(statement[4], behind + 1)
    jump = ("jump", line, behind + 1 + len(no))
    return [("split", line, statement[2], behind + 1)] + yes + [jump] + no


def rows_of_while(statement, first):
    line = statement[1]
    body = rows_of_body(statement[3], first + 1)
    behind = first + 1 + len(body)
    return [("split", line, statement[2], behind + 1)] + body + [("jump", line, first)]


def rows_of_statement(statement, first):
    if statement[0] == "if":
        return rows_of_if(statement, first)
    if statement[0] == "while":
        return rows_of_while(statement, first)
    return [copied(statement)]


def rows_of_body(body, first):
    """The rows of a body whose first row has that number."""
    rows = []
    for statement in body:
        rows.extend(rows_of_statement(statement, first + len(rows)))
    return rows


def made(job):
    return rows_of_body(job[2], 0)
