"""A share of two tables of whole numbers at which the worth of both, tilted by it, is about the greatest near by.

Shares are told on a grid: the place AT of so many stands for AT / GRID. With mixes that have the worth at a share, the
worth changes as the one number of both mixes does, which is linear in the share: a point is (at, first, second,
count), this number being first / count for the share 0 and second / count for the share 1. Nothing has to be right
about what is found, but that it is a worth: so it does not matter that there may be greater ones elsewhere.
"""

from steermeans.solving import dot, settling_weights
from steermeans.tilting import together


def point_at(one, two, grid, at):
    """The point at a place of the grid."""
    low, high = settling_weights(together(one, two, grid - at, at))
    first = dot(low, [dot(high, row) for row in one])
    second = dot(low, [dot(high, row) for row in two])
    return at, first, second, sum(low) * sum(high)


def height(point, grid):
    """The worth at a point, times the grid and its count."""
    at, first, second, _ = point
    return first * (grid - at) + second * at


def is_higher(point, other, grid):
    """Whether the worth at a point is above that at another one."""
    return height(point, grid) * other[3] > height(other, grid) * point[3]


def leads_to(point, end):
    """Whether the worth at a point rises to the side of another one."""
    return (point[2] > point[1]) == (end[0] > point[0])


def meeting(point, end, grid):
    """The place of the grid at or just below the meeting of two points' lines; that of the first if there is none."""
    rest = point[1] * end[3] - end[1] * point[3]
    share = end[2] * point[3] - point[2] * end[3]
    return grid * rest // (rest + share) if rest + share != 0 else point[0]


def rise(point, at):
    """How much the line of a point rises up to a place of the grid, times the grid and its count."""
    return (point[2] - point[1]) * (at - point[0])


def climbed(one, two, unit, start):
    """The worth of a tilted table of two tables that is about the greatest near a share, as two whole numbers."""
    steep = max([abs(a - b) for row, other in zip(one, two) for a, b in zip(row, other)])
    grid = 1 << (4 * steep // unit).bit_length()
    best = point_at(one, two, grid, grid * start[1] // (start[0] + start[1]))
    end = point_at(one, two, grid, grid if best[2] > best[1] else 0)
    if is_higher(end, best, grid):
        best, end = end, best
    by_lines = True
    while abs(end[0] - best[0]) > 1 and leads_to(best, end):
        middle = meeting(best, end, grid) if by_lines else (best[0] + end[0]) // 2
        if by_lines and 0 <= 4 * rise(best, middle) <= unit * grid * best[3]:
            break
        if not min(best[0], end[0]) < middle < max(best[0], end[0]):
            middle = (best[0] + end[0]) // 2
        point = point_at(one, two, grid, middle)
        if not is_higher(point, best, grid):
            end = point
        elif leads_to(point, end):
            best = point
        else:
            best, end = point, best
        by_lines = not by_lines
    return height(best, grid), grid * best[3]
