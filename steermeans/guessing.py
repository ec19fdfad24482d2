"""A straight program of large numbers, solved by what is kept in the same one with rounded numbers.

The rounded numbers only tell where to look: what is told is found and held against all with the numbers themselves.
"""

from steermeans.programs import exchanged_names, part_board, settled
from steermeans.solving import dot, spread


def kept_parts(worths, counts, rows):
    """The places that are kept where the greatest mean is, and the rows that are free there: one less."""
    many = len(worths)
    _, _, kept, free = settled(worths, counts, rows)
    return [name for name in kept if name < many], [name - many for name in free if name >= many]


def solved_part(worths, counts, rows, places):
    """The multiples and prices, times a unit, by which some places have the counts 1 and one row less has the sum 0.

    The prices are those of the rows and, last, the mean; the unit is last of all. None if there is not one way alone.
    """
    board = part_board(worths, counts, rows, places)
    unit = 1
    left = list(range(len(places)))
    taken = []
    for at in range(len(places)):
        fit = [row for row in left if board[row][at] != 0]
        if fit == []:
            return None
        board, unit = exchanged_names(board, unit, fit[0], at)
        left.remove(fit[0])
        taken.append(fit[0])
    return [board[row][-1] for row in taken], spread(board[-1], taken, len(places)), unit


def is_greatest(worths, counts, rows, found):
    """Whether multiples, prices, mean and unit are what they should be: then there is no greater mean."""
    multiples, prices, mean, unit = found
    if min(multiples + prices) < 0 or any([dot(row, multiples) > 0 for row in rows]):
        return False
    return all([worth * count * unit <= mean * count + dot(prices, [row[at] for row in rows])
                for at, (worth, count) in enumerate(zip(worths, counts))])


def mean_by_guess(worths, counts, rows, places, lines):
    """As greatest_mean, if these places are kept and these rows are free where the greatest mean is; None."""
    found = solved_part(worths, counts, [rows[at] for at in lines], places)
    if found is None:
        return None
    multiples, prices, unit = found
    told = (spread(multiples, places, len(worths)), spread(prices, lines, len(rows)), prices[-1], unit)
    return told if is_greatest(worths, counts, rows, told) else None
