"""Loads, plans and tapes written as texts, and read back."""

from tapepour.errors import NoText
from tapepour.plans import is_pour
from tapepour.runs import is_run

LEAST_TAPES = 3
MOST_TAPES = 6


def shown_load(load):
    """A load as a text."""
    return " ".join([str(number) for number in load])


def shown_pour(pour):
    """A pour as a text."""
    froms, to, times = pour
    tapes = ",".join([str(tape) for tape in froms])
    return f"{tapes}>{to}*{times}"


def shown_plan(plan):
    """A plan as a text."""
    return "; ".join([shown_pour(pour) for pour in plan])


def shown_run(run):
    """A run as a text."""
    return " ".join([f"{key}:{mark}" for key, mark in run]) or "."


def shown_tape(tape):
    """A tape as a row."""
    return " | ".join([shown_run(run) for run in tape]) or "-"


def shown_tapes(tapes):
    """Tapes as a text."""
    return "\n".join([shown_tape(tape) for tape in tapes])


def number_of(text):
    """The number that a text writes, or None where it writes none."""
    figures = text.removeprefix("-")
    if not figures.isascii() or not figures.isdigit():
        return None
    number = int(text)
    # Noughts ahead, and a sign ahead of 0, are seen by writing the number again.
    return number if str(number) == text else None


def read_number(text):
    """The number that a text writes."""
    number = number_of(text)
    if number is None:
        raise NoText("here a number should stand")
    return number


def check_many(things):
    """Refuses a text that tells of fewer or more tapes than there may be."""
    if not LEAST_TAPES <= len(things) <= MOST_TAPES:
        raise NoText(f"there should be {LEAST_TAPES} to {MOST_TAPES} tapes")


def read_load(text):
    """The load that a text writes."""
    numbers = [read_number(word) for word in text.split(" ")]
    check_many(numbers)
    if min(numbers) < 0:
        raise NoText("no tape has fewer runs than none")
    return tuple(numbers)


def read_pour(text):
    """The pour, for six tapes, that a text writes."""
    froms, sign, rest = text.partition(">")
    to, star, times = rest.partition("*")
    tapes = tuple([read_number(word) for word in froms.split(",")])
    pour = (tapes, read_number(to), read_number(times))
    if not is_pour(pour, MOST_TAPES):
        raise NoText("what is written is no pour")
    return pour


def read_plan(text):
    """The plan that a text writes."""
    if text == "":
        return []
    return [read_pour(part) for part in text.split("; ")]


def read_item(text):
    """The item that a text writes."""
    key, sign, mark = text.partition(":")
    return read_number(key), read_number(mark)


def read_run(text):
    """The run that a text writes."""
    if text == ".":
        return []
    run = [read_item(word) for word in text.split(" ")]
    if not is_run(run):
        raise NoText("a run is out of order")
    return run


def read_tape(text):
    """The tape that a row writes."""
    if text == "-":
        return []
    return [read_run(part) for part in text.split(" | ")]


def read_tapes(text):
    """The tapes that a text writes."""
    tapes = [read_tape(row) for row in text.split("\n")]
    check_many(tapes)
    return tapes
