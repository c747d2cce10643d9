"""What the names and kinds of a program are held to, once its lines are read and nested."""

from surejoin.errors import NoKind, NoName
from surejoin.lines import looks_of
from surejoin.statements import statements_in

# By each kind, how many expressions a put to such a box may have.
PUT_COUNTS = {"most": (1,), "set": (1,), "once": (1,), "row": (1, 2, 3, 4), "map": (2,)}
# By each word, the kinds that it is for.
WAIT_KINDS = {"least": ("most",), "has": ("set", "map"), "many": ("most", "set", "once", "row", "map")}
LOOK_KINDS = {
    "size": ("most", "set", "once", "row", "map"),
    "held": ("most", "once"),
    "has": ("set", "map"),
    "item": ("row", "map"),
}


def lines_with_names(program):
    lines = []
    for job in program[1]:
        lines.extend(statements_in(job[2]))
    return lines + [("ask", ask[0], ask[1]) for ask in program[2]]


def own_box(line):
    if line[0] == "put" or line[0] == "wait":
        return line[2]
    return line[3] if line[0] == "get" else None


def check_unlike(names, what):
    if len(set(names)) != len(names):
        raise NoName(f"two {what} are called alike")


def check_jobs(jobs):
    check_unlike([job[0] for job in jobs], "jobs")
    for job in jobs:
        check_unlike(job[1], "parameters of a job")
    mains = [job for job in jobs if job[0] == "main"]
    if mains == []:
        raise NoName("no job is called main")
    if mains[0][1] != []:
        raise NoName("main has parameters")


def check_begin(line, counts):
    name = line[2]
    number = line[1]
    if name == "main" or name not in counts:
        raise NoName(f"line {number}: {name!r} is no job that may be begun")
    if len(line[4]) != counts[name]:
        raise NoName(f"line {number}: {name!r} has another count of parameters")


def check_boxes(line, names):
    number = line[1]
    named = [look[1] for look in looks_of(line)]
    if own_box(line) is not None:
        named.append(own_box(line))
    for name in named:
        if name not in names:
            raise NoName(f"line {number}: no box is called {name!r}")


def check_names(program):
    names = [box[1] for box in program[0]]
    check_unlike(names, "boxes")
    check_jobs(program[1])
    counts = dict([(job[0], len(job[1])) for job in program[1]])
    for line in lines_with_names(program):
        if line[0] == "begin":
            check_begin(line, counts)
        check_boxes(line, names)


def is_for_kind(line, kind):
    if line[0] == "put":
        return len(line[3]) in PUT_COUNTS[kind]
    if line[0] == "wait":
        return kind in WAIT_KINDS[line[3]]
    # A get: only a once-box gives a number without being told which.
    return kind == "once" if line[4] is None else kind in ("row", "map")


def check_line_kinds(line, kinds):
    number = line[1]
    if own_box(line) is not None and not is_for_kind(line, kinds[own_box(line)]):
        raise NoKind(f"line {number}: it is not for a box of that kind")
    for look in looks_of(line):
        if kinds[look[1]] not in LOOK_KINDS[look[0]]:
            word = look[0]
            raise NoKind(f"line {number}: {word!r} is not for a box of that kind")


def check_kinds(program):
    kinds = dict([(box[1], box[0]) for box in program[0]])
    for line in lines_with_names(program):
        check_line_kinds(line, kinds)
