"""Runs: a text told as letters and how often each stands on end."""

from upwords.errors import NoPlace, NoRuns
from upwords.kinds import is_letter, is_number_below, is_whole

MOST_LETTERS = 4000


def runs_of(text):
    runs = []
    for letter in text:
        if runs and runs[-1][0] == letter:
            runs[-1] = (letter, runs[-1][1] + 1)
        else:
            runs.append((letter, 1))
    return tuple(runs)


def text_by(runs):
    if not is_runs(runs) or length_of(runs) > MOST_LETTERS:
        raise NoRuns("these are no runs, or of too many letters together")
    return "".join([run[0] * run[1] for run in runs])


def is_runs(thing):
    if not isinstance(thing, tuple) or not all([is_run(part) for part in thing]):
        return False
    return all([thing[k - 1][0] != thing[k][0] for k in range(1, len(thing))])


def is_run(thing):
    if not isinstance(thing, tuple) or len(thing) != 2:
        return False
    return is_letter(thing[0]) and is_whole(thing[1]) and thing[1] >= 1


def length_of(runs):
    return sum([run[1] for run in runs])


def letter_in(runs, place):
    if not is_number_below(place, length_of(runs)):
        raise NoPlace("the runs have no such place")
    left = place
    for run in runs:
        if left < run[1]:
            break
        left -= run[1]
    return run[0]


def count_ahead(runs, letter, place):
    many = 0
    left = place
    for run in runs:
        if run[0] == letter:
            many += max(0, min(left, run[1]))
        left -= run[1]
    return many


def place_by(runs, letter, so):
    start = 0
    left = so
    for run in runs:
        if run[0] == letter:
            if 0 <= left < run[1]:
                return start + left
            left -= run[1]
        start += run[1]
    return None
