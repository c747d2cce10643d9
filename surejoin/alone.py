"""A thread that goes alone: what its waits and gets pass with is handed in."""

from surejoin.plans import Plan
from surejoin.readers import Reader
from surejoin.threads import Thread


def story(deeds, end, thread):
    return (deeds, end[0], end[1], thread.used, list(thread.told))


def alone(program, name, numbers, steps, given):
    thread = Thread(Plan(program), name, numbers, steps)
    passed = Reader(given, None)
    deeds = []
    while thread.end is None:
        line = thread.line_here()
        if thread.wants() is None:
            deeds.append((line, thread.do_row(None)))
        elif passed.is_over():
            return story(deeds, ("waits", line), thread)
        else:
            deeds.append((line, thread.do_row(passed.take())))
    return story(deeds, thread.end, thread)
