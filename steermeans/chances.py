"""Chances of rain that are said day by day, drawn by mixes, and by how much it rained more or less than was said.

With K steps, all that a day adds is reckoned times 2 K and times one count that makes all mixes whole: first what is
over each g, then what is under each g, in one list.
"""

from steermeans.counting import above_nil, ratios, running_sums, square_sum, whole_mixes
from steermeans.forms import check_days, check_mix, check_number
from steermeans.ratios import ratio
from steermeans.solving import dot, mix_of, spread


def check_steps_and_days(steps, days):
    """Raise the errors of steps and of days."""
    check_number(steps, 1, 6)
    check_days(days, steps + 1)


def offs(steps, rain):
    """By how much it rained more than each chance and half a step, then by how much less, times 2 K."""
    more = [2 * steps * rain - 2 * chance - 1 for chance in range(steps + 1)]
    return more + [-number - 2 for number in more]


def day_steps(steps, days):
    """For each day what comes to all over and under, times a whole number, and this number."""
    mixes, count = whole_mixes([mix for mix, _ in days])
    found = []
    for weights, (_, rain) in zip(mixes, days):
        found.append([weight * off for weight, off in zip(weights + weights, offs(steps, rain))])
    return found, 2 * steps * count


def day_sums(steps, days):
    """All over and under behind no day, the first one, the first two, and so on, times a whole number; and this one."""
    found, scale = day_steps(steps, days)
    return running_sums(found, 2 * (steps + 1)), scale


def keeps_steady(steps, sums, mix):
    """Whether a mix is steady where all over and under, times a number above 0, are such."""
    mixes, _ = whole_mixes([mix])
    parts = [weight * number for weight, number in zip(mixes[0] + mixes[0], above_nil(sums))]
    return all([dot(parts, offs(steps, rain)) <= 0 for rain in range(2)])


def said_weights(over, under):
    """The weights of the next day's mix, from all over and all under."""
    many = len(over)
    for at in range(many):
        if over[at] <= 0 and under[at] <= 0:
            return spread([1], [at], many)
    # over the last one nothing is above 0, nor under the first one: so somewhere the one is and the next other is
    for at in range(many - 1):
        if over[at] > 0 and under[at + 1] > 0:
            return spread([under[at + 1], over[at]], [at, at + 1], many)


def over_of(steps, days):
    """For each chance by how much it rained more than was said, beyond half a step."""
    check_steps_and_days(steps, days)
    sums, scale = day_sums(steps, days)
    return ratios(sums[-1][:steps + 1], scale)


def under_of(steps, days):
    """For each chance by how much it rained less than was said, beyond half a step."""
    check_steps_and_days(steps, days)
    sums, scale = day_sums(steps, days)
    return ratios(sums[-1][steps + 1:], scale)


def said_mix(steps, days):
    """The mix of chances for the next day."""
    check_steps_and_days(steps, days)
    sums, _ = day_sums(steps, days)
    return mix_of(said_weights(sums[-1][:steps + 1], sums[-1][steps + 1:]))


def steady_mix(steps, days, mix):
    """Whether a mix is steady behind some days."""
    check_steps_and_days(steps, days)
    check_mix(mix, steps + 1)
    sums, _ = day_sums(steps, days)
    return keeps_steady(steps, sums[-1], mix)


def is_steady(steps, days):
    """Whether each day's mix was steady behind the days ahead of it."""
    check_steps_and_days(steps, days)
    ahead, _ = day_sums(steps, days)
    return all([keeps_steady(steps, sums, mix) for sums, (mix, _) in zip(ahead, days)])


def left_squares(steps, days):
    """The sum of the squares of all over and under that are above 0."""
    check_steps_and_days(steps, days)
    sums, scale = day_sums(steps, days)
    return ratio(square_sum(above_nil(sums[-1])), scale * scale)


def day_squares(steps, days):
    """The sum, over all days, of the squares of what comes to all over and under."""
    check_steps_and_days(steps, days)
    found, scale = day_steps(steps, days)
    return ratio(sum([square_sum(step) for step in found]), scale * scale)
