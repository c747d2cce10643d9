"""A plan is what threads need of a program, kept apart from it: what is done to the program later changes no plan."""

from surejoin.rows import made


class Plan:
    def __init__(self, program):
        self.kinds = dict([(box[1], box[0]) for box in program[0]])
        self.rows = dict([(job[0], made(job)) for job in program[1]])
        self.params = dict([(job[0], list(job[1])) for job in program[1]])
        self.lasts = dict([(job[0], job[4]) for job in program[1]])
