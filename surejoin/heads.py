"""The head lines of a job sheet, parted from the program's text behind them."""

from surejoin.errors import NoHead, NoLine
from surejoin.house import MOST_STEPS
from surejoin.words import read_number

MOST_PICKS = 32


def head_numbers(line, word):
    words = line.split(" ")
    if words[0] != word:
        raise NoHead(f"a head line does not begin with {word!r}")
    try:
        return [read_number(text) for text in words[1:]]
    except NoLine as fault:
        raise NoHead(f"in the line of {word!r}: {fault}") from None


def read_steps(line):
    numbers = head_numbers(line, "steps")
    if len(numbers) != 1 or numbers[0] > MOST_STEPS:
        raise NoHead(f"the line of steps has not one number from 0 to {MOST_STEPS}")
    return numbers[0]


def read_picks(line):
    picks = head_numbers(line, "picks")
    if len(picks) > MOST_PICKS:
        raise NoHead(f"there are more than {MOST_PICKS} picks")
    return picks


def parted(sheet):
    lines = sheet.split("\n")
    if len(lines) < 2:
        raise NoHead("a head line is lacking")
    return (read_steps(lines[0]), read_picks(lines[1]), "\n".join(lines[2:]))
