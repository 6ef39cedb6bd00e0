"""Sets of places that are told by a step and a first place, and whether they have each place just once."""


def index_of(step, first, place):
    """The m for which step * m + first is this place, 0 being the only one if the step is 0; None if there is none."""
    if step == 0 or place < first:
        return 0 if place == first else None
    return (place - first) // step if (place - first) % step == 0 else None


def residues_of(runs):
    """The first places of runs by their step and rest, None if two of them are the same from some place on."""
    found = {}
    for step, first in runs:
        if (step, first % step) in found:
            return None
        found[step, first % step] = first
    return found


def holder(residues, steps, place):
    """The first of these steps with a run that has this place, or would have it if it began early enough."""
    for step in steps:
        if (step, place % step) in residues:
            return step
    return None


def covers_once(pairs):
    """Whether these have each place just once: step * m + first for all m, or first alone if the step is 0.

    The steps above 0 are powers of one number, so each two runs meet again and again or never.
    """
    runs = [(step, first) for step, first in pairs if step > 0]
    singles = [first for step, first in pairs if step == 0]
    residues = residues_of(runs)
    if residues is None or len(set(singles)) != len(singles):
        return False
    steps = sorted(set([step for step, first in runs]))
    most = max([1, *steps])
    # The runs are apart if none has its residue in that of a smaller step.
    apart = all([holder(residues, steps, first) == step for step, first in runs])
    if not apart or sum([most // step for step, first in runs]) != most:
        return False
    # From some place on all is well; ahead of the first places of the runs there have to be just the singles.
    for place in singles:
        step = holder(residues, steps, place)
        if place >= residues[step, place % step]:
            return False
    return len(singles) == sum([first // step for step, first in runs])
