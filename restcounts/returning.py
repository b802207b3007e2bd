"""Rows that one table leads on, up to the first one that comes back."""

from restcounts.packing import unpack
from restcounts.systems import led


def rows_until_back(row, table, width, m, most):
    """The unlike rows to which a packed table leads a row, and the place of the one that follows.

    None if there are more than most rows.
    """
    places = {}
    rows = []
    while row not in places:
        if len(rows) == most:
            return None
        places[row] = len(rows)
        rows.append(row)
        row = unpack(led(row, table), width, m)
    return rows, places[row]
