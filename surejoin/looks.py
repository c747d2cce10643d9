"""Looks at boxes in the jobs of a program: a program is let where there are none, for they would hang on the turns."""

from surejoin.lines import looks_of
from surejoin.statements import statements_in


def looks(program):
    told = []
    for job in program[1]:
        for statement in statements_in(job[2]):
            told.extend([(statement[1], look[0]) for look in looks_of(statement)])
    return told


def is_let(program):
    return looks(program) == []
