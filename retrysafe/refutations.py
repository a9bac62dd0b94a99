"""Runs that rule out choices of moments."""

from retrysafe.errors import NoValue
from retrysafe.runs import begun


def end_vector(layout, run):
    """The vector at the end of a run."""
    values, arguments, plan, taken = run
    found = begun(layout, values, arguments, taken)
    found.follow(plan)
    return found.vector


def needed(layout, plan):
    """How many taken values a run with this plan can need, with whatever marks."""
    return (len(plan) + 1) * len(layout.takers)


def padded(layout, origin):
    """The run of an origin, with taken values that suffice with all marks."""
    (values, arguments), plan, taken = origin
    return values, arguments, plan, taken + (0,) * (needed(layout, plan) - len(taken))


def scattered(many, ahead):
    """So many different numbers without a plain relation between them, behind so many others."""
    return tuple([at * at * at % 61 + 67 * at + 2 for at in range(ahead, ahead + many)])


def varied(layout, origin):
    """A run with the plan of an origin in which all numbers differ, so that it rules out more choices."""
    plan = origin[1]
    behind = layout.many + layout.extra
    return (scattered(layout.many, 0), scattered(layout.extra, layout.many), plan,
            scattered(needed(layout, plan), behind))


def ruling_out(goal, layout, alive, origins):
    """Runs such that none of some choices is right for all of them; the runs of the origins are such."""
    found = []
    rest = alive
    for origin in origins:
        for run in (varied(layout, origin), padded(layout, origin)):
            left = goal.right(layout, end_vector(layout, run), rest)
            if len(left) < len(rest):
                found.append(run)
                rest = left
    return without_idle(goal, layout, alive, found)


def without_idle(goal, layout, alive, runs):
    """Those of some runs that are needed to rule out all of some choices."""
    rights = {at: goal.right(layout, end_vector(layout, run), alive) for at, run in enumerate(runs)}
    for at in range(len(runs)):
        others = [rights[other] for other in rights if other != at]
        if not any([all([choice in right for right in others]) for choice in alive]):
            del rights[at]
    return [runs[at] for at in rights]


def fewer(goal, layout, run, alive):
    """Those of some choices for which a run ends right; all of them if it lacks taken values."""
    try:
        vector = end_vector(layout, run)
    except NoValue:
        return alive
    return goal.right(layout, vector, alive)


def remaining(goal, layout, runs, alive):
    """Those of some choices for which each of some runs ends right or lacks taken values."""
    for run in runs:
        if len(alive) == 0:
            break
        alive = fewer(goal, layout, run, alive)
    return alive
