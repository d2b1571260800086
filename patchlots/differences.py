"""Differences of texts, of the least weight and the fewest cuts, and as patches."""

from patchlots.commonrows import check_texts
from patchlots.errors import BadDifference, BadName, NotRead, TakenName
from patchlots.kinds import is_list, is_name, is_number, wrong_words
from patchlots.lots import page_of
from patchlots.patches import Patch
from patchlots.reading import reading


def is_cut(thing):
    """Whether any object is a cut."""
    if not is_list(thing) or len(thing) != 3 or not is_number(thing[0]) or not is_number(thing[1]):
        return False
    return wrong_words(thing[2]) is None and (thing[1] > 0 or len(thing[2]) > 0)


def is_difference(text, thing):
    """Whether any object is a difference of a text."""
    check_texts([text])
    if not is_list(thing) or not all([is_cut(cut) for cut in thing]):
        return False
    end = -1
    for place, many, _ in thing:
        if place <= end:
            return False
        end = place + many
    return end <= len(text)


def check_difference(text, cuts):
    """NoText for no text, then BadDifference for no difference of it."""
    if not is_difference(text, cuts):
        raise BadDifference(cuts)


def cut_text(text, cuts):
    """The text behind a difference."""
    check_difference(text, cuts)
    made = []
    come = 0
    for place, many, words in cuts:
        made.extend(list(text[come:place]) + list(words))
        come = place + many
    return made + list(text[come:])


def least_costs(one, other):
    """The dict from pairs of places to what makes the rest of the other out of that of the one.

    It tells two costs, ahead of a cut and within one. A line that is taken or put costs more than
    all cuts together.
    """
    heavy = len(one) + len(other) + 1
    costs = {}
    for i in reversed(range(len(one) + 1)):
        for j in reversed(range(len(other) + 1)):
            cutting = []
            keeping = []
            if i < len(one):
                cutting.append(costs[(i + 1, j)][1] + heavy)
            if j < len(other):
                cutting.append(costs[(i, j + 1)][1] + heavy)
            if i < len(one) and j < len(other) and one[i] == other[j]:
                keeping.append(costs[(i + 1, j + 1)][0])
            costs[(i, j)] = (min(keeping + [cost + 1 for cost in cutting], default=0),
                             min(keeping + cutting, default=0))
    return costs


def kept_row(one, other):
    """A longest common row between whose matches there are the fewest cuts."""
    costs = least_costs(one, other)
    heavy = len(one) + len(other) + 1
    row = []
    i = 0
    j = 0
    while i < len(one) and j < len(other):
        # A cut begun costs just one more: so what is least within a cut is least ahead of one, too.
        cost = costs[(i, j)][1]
        if one[i] == other[j] and costs[(i + 1, j + 1)][0] == cost:
            row.append((i, j))
            i += 1
            j += 1
        elif costs[(i + 1, j)][1] + heavy == cost:
            i += 1
        else:
            j += 1
    return row


def difference(one, other):
    """A difference that makes the other out of the one, of the least weight and the fewest cuts."""
    check_texts([one, other])
    cuts = []
    place = 0
    put = 0
    for i, j in kept_row(one, other) + [(len(one), len(other))]:
        if place < i or put < j:
            cuts.append((place, i - place, list(other[put:j])))
        place = i + 1
        put = j + 1
    return cuts


def turned_round(text, cuts):
    """The difference of the text behind a difference that makes the text again."""
    check_difference(text, cuts)
    turned_cuts = []
    more = 0
    for place, many, words in cuts:
        turned_cuts.append((place + more, len(words), list(text[place:place + many])))
        more = more + len(words) - many
    return turned_cuts


def patch_to(lot, text, name):
    """A Patch called so by which a lot that reads comes to read as a text."""
    page = page_of(lot)
    row = reading(page)
    if row is None:
        raise NotRead(lot)
    check_texts([text])
    if not is_name(name):
        raise BadName(name)
    if name in lot:
        raise TakenName(name)
    said = page.lines()
    kept = kept_row([said[line] for line in row], text)
    lines = {j: row[i] for i, j in kept}
    texts = []
    for j, words in enumerate(text):
        if j not in lines:
            lines[j] = (name, len(texts))
            texts.append(words)
    orders = [(lines[j], lines[j + 1]) for j in range(len(text) - 1)
              if name in (lines[j][0], lines[j + 1][0])]
    staying = {i: True for i, _ in kept}
    return Patch(name, texts, orders, [line for i, line in enumerate(row) if i not in staying])
