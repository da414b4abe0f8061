"""Handing over: the rows of dues."""

from evenmarket.dues import changes_of
from evenmarket.rows import Row


def rows_of(day, due):
    """The row by which a due is handed over on a day."""
    changes = changes_of(due)
    return Row(day, ("settle", day, due.number), {(*door, "free"): changes[door] for door in changes})
