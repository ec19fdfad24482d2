"""The greatest mean of some worths, for multiples that keep some sums at most 0: a straight program in whole numbers.

Each place has a worth and a count above 0. A multiple from 0 on of each place is looked for, such that the counts
times the multiples add up to 1, no row of numbers times the multiples adds up to more than 0, and the worths, each
counted by count times multiple, have the greatest mean. Prices of the rows, from 0 on, show that it is the greatest:
for no place worth times count is above this mean times count and the prices times the place's numbers, together.

A board has a row for each name that is kept, the mean's row last, a number in each row for each name that is free,
and what the name itself has last; all are times one unit above 0. A free name has 0. The names are the places and,
behind them, the rows. The mean's row, with the prices, stays from 0 on; what is kept is mended until it is so, too.
"""

def exchanged_names(board, unit, row, at):
    """The board and its unit after the name that is kept in a row and the free one at a place have changed places."""
    pivot = board[row][at]
    sign = 1 if pivot > 0 else -1
    size = sign * pivot
    found = []
    for place, numbers in enumerate(board):
        if place == row:
            line = [sign * number for number in numbers]
            line[at] = sign * unit
        else:
            # nothing is left by the division: all numbers are determinants of parts of the first board
            share = sign * numbers[at]
            line = [(size * number - share * other) // unit for number, other in zip(numbers, board[row])]
            line[at] = -share
        found.append(line)
    return found, size


def part_board(worths, counts, rows, places):
    """The board of some places on which all are free, the sum of their counts being kept behind the rows."""
    board = [[row[at] for at in places] + [0] for row in rows]
    board.append([counts[at] for at in places] + [1])
    board.append([-worths[at] * counts[at] for at in places] + [0])
    return board


def first_board(worths, counts, rows, best):
    """The board on which one place of the greatest worth is kept, in the last row but one, and its unit."""
    board = part_board(worths, counts, rows, list(range(len(worths))))
    board, unit = exchanged_names(board, 1, len(rows), best)
    # where this place was free, there is now the sum of the counts: it is 1 for good
    return [numbers[:best] + numbers[best + 1:] for numbers in board], unit


def row_to_mend(board, kept):
    """The row of the first name that is below 0; None. (The first one, here and below: so no board comes twice.)"""
    below = [(name, at) for at, name in enumerate(kept) if board[at][-1] < 0]
    return min(below)[1] if below else None


def place_to_keep(board, row, free):
    """The free name's place by which the last row stays from 0 on."""
    best = None
    for _, at in sorted([(name, at) for at, name in enumerate(free) if board[row][at] < 0]):
        if best is None or board[-1][at] * board[row][best] > board[-1][best] * board[row][at]:
            best = at
    return best


def settled(worths, counts, rows):
    """The board that has the greatest mean, its unit, and the names that are kept and that are free."""
    many = len(worths)
    best = worths.index(max(worths))
    board, unit = first_board(worths, counts, rows, best)
    free = [at for at in range(many) if at != best]
    kept = list(range(many, many + len(rows))) + [best]
    row = row_to_mend(board, kept)
    while row is not None:
        at = place_to_keep(board, row, free)
        board, unit = exchanged_names(board, unit, row, at)
        kept[row], free[at] = free[at], kept[row]
        row = row_to_mend(board, kept)
    return board, unit, kept, free


def greatest_mean(worths, counts, rows):
    """The multiples of the places, the prices of the rows, the greatest mean, all times a unit, and this unit."""
    many = len(worths)
    board, unit, kept, free = settled(worths, counts, rows)
    found = [0] * (many + len(rows))
    for at, name in enumerate(kept):
        if name < many:
            found[name] = board[at][-1]
    for at, name in enumerate(free):
        if name >= many:
            found[name] = board[-1][at]
    return found[:many], found[many:], board[-1][-1], unit
