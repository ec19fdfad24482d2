"""Tables: their worths, and the mixes that have them. The first one, who mixes rows, wants little."""

from steermeans.errors import InvalidTable
from steermeans.forms import are_fractions, check_mix, is_tuple_of
from steermeans.ratios import at_most, weighted
from steermeans.solving import exchanged, solution


def is_table(value):
    """Whether a value, whatever it is, is a table."""
    if not is_tuple_of(value, 1, 4):
        return False
    if not all([are_fractions(row, 1, 4) for row in value]):
        return False
    return all([len(row) == len(value[0]) for row in value])


def check_table(table):
    """Raise InvalidTable for what is no table."""
    if not is_table(table):
        raise InvalidTable(table)


def worth(table):
    """The least number to which some mix of rows keeps each column."""
    check_table(table)
    return solution(table)[0]


def low_mix(table):
    """A mix of rows none of whose columns is above the worth."""
    check_table(table)
    return solution(table)[1]


def high_mix(table):
    """A mix of columns none of whose rows is below the worth."""
    check_table(table)
    return solution(table)[2]


def columns_of(table, mix):
    """What each column has with a mix of rows."""
    check_table(table)
    check_mix(mix, len(table))
    return tuple([weighted(mix, column) for column in exchanged(table)])


def is_low_mix(table, mix):
    """Whether no column is above the worth with a mix of rows."""
    columns = columns_of(table, mix)
    most = worth(table)
    return all([at_most(number, most) for number in columns])


def rows_of(table, mix):
    """What each row has with a mix of columns."""
    check_table(table)
    check_mix(mix, len(table[0]))
    return tuple([weighted(mix, row) for row in table])


def is_high_mix(table, mix):
    """Whether no row is below the worth with a mix of columns."""
    rows = rows_of(table, mix)
    least = worth(table)
    return all([at_most(least, number) for number in rows])


def turned_table(table):
    """The table with rows and columns exchanged and the other sign for each number."""
    check_table(table)
    return tuple([tuple([(-above, below) for above, below in column]) for column in exchanged(table)])
