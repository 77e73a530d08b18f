"""Texts: towns and plans written as lines, and such lines read."""

from windround.days import is_row
from windround.errors import NoText

FIGURES = "0123456789"
MOST_FIGURES = 40
CLOCKS = 1000
BETWEEN = " | "
NO_ROWS = "."
NO_CLOCKS = "-"


def show_numbers(numbers, between):
    """Whole numbers as a text."""
    return between.join([str(number) for number in numbers])


def show_town(town):
    """A town as a line."""
    return show_numbers(town[0], " ") + BETWEEN + show_numbers(town[1], " ")


def show_row(row):
    """A row as a text."""
    return show_numbers(row, ",") if row else NO_CLOCKS


def show_rows(rows):
    """Rows as a text."""
    return " ".join([show_row(row) for row in rows]) if rows else NO_ROWS


def show_plan(plan):
    """A plan as a line."""
    return show_rows(plan[0]) + BETWEEN + show_rows(plan[1])


def read_number(text):
    """A whole number from 0 on, written in figures."""
    fits = 1 <= len(text) <= MOST_FIGURES and all([sign in FIGURES for sign in text])
    if not fits or (text[0] == "0" and text != "0"):
        raise NoText(f"no number: {text!r}")
    return int(text)


def read_numbers(text, between):
    """One whole number or more."""
    return [read_number(part) for part in text.split(between)]


def halves(line):
    """The two texts ahead of the stroke and behind it."""
    parts = line.split(BETWEEN)
    if len(parts) != 2:
        raise NoText("not just one stroke with a blank on each side")
    return parts


def read_town(line):
    """The town of a line; NoText where it is none of a town."""
    parts = halves(line)
    spans = read_numbers(parts[0], " ")
    if 0 in spans:
        raise NoText("a span of 0")
    return (spans, read_numbers(parts[1], " "))


def read_row(text):
    """The row of a text."""
    if text == NO_CLOCKS:
        return []
    row = read_numbers(text, ",")
    if not is_row(row, CLOCKS):
        raise NoText(f"no row: {text!r}")
    return row


def read_rows(text):
    """One row or more."""
    return [read_row(part) for part in text.split(" ")]


def read_plan(line):
    """The plan of a line, whether it keeps anything or not; NoText where it is none of a plan."""
    parts = halves(line)
    first = [] if parts[0] == NO_ROWS else read_rows(parts[0])
    return (first, read_rows(parts[1]))
