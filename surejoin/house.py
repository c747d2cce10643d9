"""A house does a program that is let: its threads go on by turns that somebody else chooses."""

from surejoin.boxes import Box
from surejoin.errors import Hangs, NoBoxes, NoSteps, NoTurn
from surejoin.kinds import kind_of
from surejoin.looks import is_let
from surejoin.plans import Plan
from surejoin.sums import is_whole
from surejoin.threads import Thread

MOST_STEPS = 400


def are_states(kinds, things):
    if not isinstance(things, list) or len(things) != len(kinds):
        return False
    return all([kind_of(word).is_state(thing) for word, thing in zip(kinds, things)])


def check_handed(program, steps, boxes):
    if not is_let(program):
        raise Hangs("a job looks at a box")
    if not is_whole(steps) or not 0 <= steps <= MOST_STEPS:
        raise NoSteps(f"the steps are no whole number from 0 to {MOST_STEPS}")
    if boxes is not None and not are_states([box[0] for box in program[0]], boxes):
        raise NoBoxes("the boxes are no list of states, one for each box")


class House:
    def __init__(self, program, steps, boxes=None):
        check_handed(program, steps, boxes)
        handed = [[] for box in program[0]] if boxes is None else boxes
        self.boxes = dict([(box[1], Box(box[0], state)) for box, state in zip(program[0], handed)])
        self.plan = Plan(program)
        self.threads = {(): Thread(self.plan, "main", [], steps)}
        self.clash = None

    def is_waiting(self, thread):
        want = thread.wants()
        return want is not None and not self.boxes[want[0]].lets_past(want)

    def is_ready(self, path):
        if self.clash is not None or path not in self.threads:
            return False
        thread = self.threads[path]
        return thread.end is None and not self.is_waiting(thread)

    def ready(self):
        return [path for path in sorted(self.threads) if self.is_ready(path)]

    def turn(self, path):
        if not self.is_ready(path):
            raise NoTurn(f"the thread {path!r} is not ready")
        thread = self.threads[path]
        line = thread.line_here()
        want = thread.wants()
        deed = thread.do_row(None if want is None else self.boxes[want[0]].given_for(want))
        if deed[0] == "put":
            self.put_in(path, line, deed)
        if deed[0] == "begin":
            self.threads[path + (thread.begun,)] = Thread(self.plan, deed[1], deed[3], deed[2])
            thread.begun += 1
        return (path, line, deed)

    def put_in(self, path, line, deed):
        unfit = self.boxes[deed[1]].take_in(path, line, deed[2])
        if unfit is not None:
            self.clash = (deed[1], unfit[0], unfit[1], path, line)

    def states(self):
        return [list(box.state) for box in self.boxes.values()]

    def clashed(self):
        return self.clash

    def word_and_line(self, thread):
        if thread.end is not None:
            return thread.end
        return ("waits" if self.is_waiting(thread) else "goes", thread.line_here())

    def standing(self):
        told = []
        for path in sorted(self.threads):
            thread = self.threads[path]
            told.append((path,) + self.word_and_line(thread) + (thread.used, list(thread.told)))
        return told

    def wanting(self):
        told = []
        for path in sorted(self.threads):
            thread = self.threads[path]
            if self.is_waiting(thread):
                told.append((path,) + thread.wants())
        return told
