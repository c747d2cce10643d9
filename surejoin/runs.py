"""Runs: turns are taken by picks until no thread is ready, and what came of them is told."""

from surejoin.house import House
from surejoin.reckoning import reckoned


def turns_by(house, picks):
    log = []
    ready = house.ready()
    while ready != []:
        pick = picks[len(log) % len(picks)]
        log.append(house.turn(ready[pick % len(ready)]))
        ready = house.ready()
    return log


def answers_of(program, states):
    boxes = dict([(box[1], (box[0], state)) for box, state in zip(program[0], states)])
    return [reckoned(ask[1], {}, boxes) for ask in program[2]]


class Outcome:
    def __init__(self, program, house, log):
        self.log = log
        self.clash = house.clashed()
        self.boxes = house.states()
        self.threads = []
        self.waits = []
        self.answers = []
        # How far the threads came ahead of a clash hangs on the turns: then nothing is told of them.
        if self.clash is None:
            self.threads = house.standing()
            self.waits = house.wanting()
            self.answers = answers_of(program, self.boxes)


def run(program, steps, picks=None, boxes=None):
    house = House(program, steps, boxes)
    log = turns_by(house, [0] if picks is None or len(picks) == 0 else picks)
    return Outcome(program, house, log)


def is_begin_ahead(one, other):
    return one[2][0] == "begin" and one[0] == other[0][:len(one[0])]


def is_put_to_pass(one, other):
    return one[2][0] == "put" and other[2][0] == "pass" and one[2][1] == other[2][1]


def apart(one, other):
    if one[0] == other[0] or is_begin_ahead(one, other) or is_begin_ahead(other, one):
        return False
    return not is_put_to_pass(one, other) and not is_put_to_pass(other, one)
