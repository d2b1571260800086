"""Deeds on trees of files, and which of them together make none that reads."""

from patchlots.errors import BadDeedName, BadDeeds, BadStep, NotReading
from patchlots.families import least_of
from patchlots.kinds import choices, is_line_of, is_list, is_name, line_of
from patchlots.trees import KINDS, FileTree, is_place, paths_of, place_in_tree


def step_told(live, step):
    """The step, as it is told, that any object is where these are live, or None."""
    if not is_list(step) or len(step) not in (2, 3):
        return None
    if len(step) == 2:
        buries = step[0] == "bury" and is_line_of(step[1], live)
        return ("bury", line_of(step[1])) if buries else None
    if not is_place(live, step[2]):
        return None
    if step[0] == "make" and step[1] in KINDS:
        return ("make", step[1], place_in_tree(step[2]))
    if step[0] == "move" and is_line_of(step[1], live):
        return ("move", line_of(step[1]), place_in_tree(step[2]))
    return None


def telling_places(placings, entry):
    """The marks of the placings of an entry that none replaces."""
    replaced = {old: True for _, _, olds in placings.values() for old in olds}
    return [mark for mark, (told, _, _) in placings.items() if told == entry and mark not in replaced]


def behind_steps(tree, name, steps):
    """The pair of the tree behind a deed and None, or of None and the index of its first bad step."""
    if not is_list(steps):
        return None, 0
    kinds = tree.entries()
    placings = tree.placings()
    dead = tree.dead()
    for index, step in enumerate(steps):
        live = {entry: kind for entry, kind in kinds.items() if entry not in dead}
        told = step_told(live, step)
        if told is None:
            return None, index
        if told[0] == "make":
            kinds[(name, index)] = told[1]
            placings[(name, index)] = ((name, index), told[2], [])
        elif told[0] == "move":
            placings[(name, index)] = (told[1], told[2], telling_places(placings, told[1]))
        else:
            dead.append(told[1])
    return FileTree(kinds, placings, dead), None


def is_deed_name(tree, thing):
    """Whether any object is a name that no entry and no mark of a tree has."""
    if not is_name(thing):
        return False
    return all([thing != name for name, _ in list(tree.entries()) + list(tree.placings())])


def deed_done(tree, name, steps):
    """The tree with the steps of a deed, one behind another."""
    if not is_deed_name(tree, name):
        raise BadDeedName(name)
    done, index = behind_steps(tree, name, steps)
    if done is None:
        raise BadStep(index)
    return done


def checked_deeds(tree, deeds):
    """The dict from names to the trees behind their deeds, or BadDeeds."""
    if not isinstance(deeds, dict):
        raise BadDeeds(deeds)
    done = {}
    for name, steps in deeds.items():
        made = behind_steps(tree, name, steps)[0] if is_deed_name(tree, name) else None
        if made is None or paths_of(made) is None:
            raise BadDeeds(name)
        done[name] = made
    return done


def read_together(tree, others):
    """Whether a tree reads together with others."""
    for other in others:
        tree = tree | other
    return paths_of(tree) is not None


def least_clashes(tree, deeds):
    """The lists of names whose deeds together make no tree that reads, while those of fewer do."""
    if paths_of(tree) is None:
        raise NotReading()
    done = checked_deeds(tree, deeds)
    return least_of([names for names in choices(sorted(done))
                     if not read_together(tree, [done[name] for name in names])])
