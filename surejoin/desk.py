"""The desk answers a job sheet by lines."""

from surejoin.heads import parted
from surejoin.looks import is_let, looks
from surejoin.runs import run
from surejoin.texts import read


def shown_path(path):
    return "main" if path == () else ".".join([str(n) for n in path])


def shown_thing(thing):
    if isinstance(thing, tuple):
        return ":".join([str(n) for n in thing])
    return str(thing)


def hangs_lines(program):
    return [f"hangs {line} {word}" for line, word in looks(program)]


def clash_line(clash):
    words = ["clash", clash[0], shown_path(clash[1]), str(clash[2]), shown_path(clash[3]), str(clash[4])]
    return " ".join(words)


def thread_line(thread):
    words = ["thread", shown_path(thread[0]), thread[1], str(thread[2]), str(thread[3])]
    return " ".join(words + [str(n) for n in thread[4]])


def box_line(name, state):
    return " ".join(["box", name] + [shown_thing(thing) for thing in state])


def ask_line(answer):
    return "ask none" if answer is None else f"ask {answer}"


def outcome_lines(program, outcome):
    if outcome.clash is not None:
        return [clash_line(outcome.clash)]
    lines = [thread_line(thread) for thread in outcome.threads]
    lines.extend([box_line(box[1], state) for box, state in zip(program[0], outcome.boxes)])
    lines.extend([ask_line(answer) for answer in outcome.answers])
    return lines


def answered(sheet):
    head = parted(sheet)
    program = read(head[2])
    if not is_let(program):
        return "\n".join(hangs_lines(program))
    return "\n".join(outcome_lines(program, run(program, head[0], head[1])))
