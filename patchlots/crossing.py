"""From runs of changes by places to lots of patches, and back."""

from patchlots.errors import BadList, BadName
from patchlots.kinds import are_just_names, are_names, is_name
from patchlots.lots import Lot
from patchlots.patches import Patch
from patchlots.places import checked_text
from patchlots.runs import names_of, steps_of


def chain_of(lines):
    """The orders of each line of a list ahead of the next."""
    return list(zip(lines, lines[1:]))


def ground_patch(ground, text):
    """The patch that puts the words of a text, one empty line ahead of them and one behind."""
    texts = [""] + text + [""]
    return Patch(ground, texts, chain_of([(ground, number) for number in range(len(texts))]))


def step_patch(name, change, live):
    """The patch of a step, live being the lines at that time, those of the ground's ends too."""
    place, old, new = change
    buried = live[place + 1:place + 1 + len(old)]
    orders = []
    if len(new) > 0:
        own = [(name, number) for number in range(len(new))]
        orders = chain_of([live[place]] + own + [live[place + 1 + len(old)]])
    return Patch(name, new, orders, buried)


def live_behind(live, patch, change):
    """The live lines in their order behind a step."""
    place, old, _ = change
    return live[:place + 1] + patch.own_lines() + live[place + 1 + len(old):]


def lot_of_steps(ground, text, steps):
    """The lot of a run that is told by its steps."""
    patches = [ground_patch(ground, text)]
    live = patches[0].own_lines()
    for name, change in steps:
        patch = step_patch(name, change, live)
        live = live_behind(live, patch, change)
        patches.append(patch)
    return Lot(patches)


def lot_of_run(ground, text, run):
    """The lot of a run for a text, the ground's patch called so."""
    words = checked_text(text)
    steps = steps_of(words, run, [])
    if not is_name(ground) or ground in names_of(steps):
        raise BadName(ground)
    return lot_of_steps(ground, words, steps)


def place_of(patch, live):
    """The place of the only change that can make a patch where these lines are live, or None."""
    marks = [live.index(line) for line in patch.burials() if line in live]
    if len(marks) > 0:
        return min(marks) - 1
    marks = [live.index(one) for one, _ in patch.orders() if one in live]
    return marks[0] if len(marks) > 0 else None


def steps_in_lot(lot, live, names):
    """The steps that the patches can be, one behind the other, the ends being live; or None."""
    words = {}
    for name in lot.names():
        patch = lot.patch_of(name)
        for line, told in zip(patch.own_lines(), patch.texts()):
            words[line] = told
    steps = []
    for name in names:
        patch = lot.patch_of(name)
        place = place_of(patch, live)
        many = len(patch.burials())
        if place is None or not 0 <= place <= len(live) - 2 - many:
            return None
        old = [words[line] for line in live[place + 1:place + 1 + many]]
        change = (place, old, patch.texts())
        steps.append((name, change))
        live = live_behind(live, patch, change)
    return steps


def run_of_lot(ground, lot, names):
    """The run, in the order of a list of names, whose lot this is, None if there is none."""
    if not is_name(ground):
        raise BadName(ground)
    if not are_names(names) or ground in names:
        raise BadList(names)
    if not are_just_names([ground] + list(names), lot.names()):
        return None
    patch = lot.patch_of(ground)
    steps = steps_in_lot(lot, patch.own_lines(), names)
    if steps is None or lot_of_steps(ground, patch.texts()[1:-1], steps) != lot:
        return None
    return steps
