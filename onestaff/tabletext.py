"""Runs as a text: a row of words for each."""

from onestaff.forms import read_row, read_rows, write_row

RUN = "NAME NAME NAME TIME TIME"


def table_text(runs):
    return "\n".join([write_row(RUN, run) for run in runs])


def table_in(text):
    return read_rows(text, _run_of_row)


def _run_of_row(row):
    return read_row(RUN, row)
