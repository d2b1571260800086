"""Lots as texts."""

from patchlots.errors import BadText
from patchlots.kinds import is_name, is_words
from patchlots.lots import Lot
from patchlots.pagetexts import line_text, line_told, order_text, order_told, rows_told
from patchlots.patches import Patch, may_bury, may_order, may_undo

# In which order the kinds stand; a draft is a list of a name and, at these indexes, of lists.
KINDS = {"says": 1, "order": 2, "bury": 3, "back": 4}


def write_lot(lot):
    """The text of a lot."""
    return "".join([patch_text(lot.patch_of(name)) for name in lot.names()])


def patch_text(patch):
    rows = [f"patch {patch.called()}\n"]
    rows.extend([f"says {words}\n" for words in patch.texts()])
    rows.extend([order_text(order) for order in patch.orders()])
    rows.extend([f"bury {line_text(line)}\n" for line in patch.burials()])
    rows.extend([f"back {other} {line_text(line)}\n" for other, line in patch.backs()])
    return "".join(rows)


def read_lot(text):
    """The lot that has a text."""
    return Lot([Patch(*draft) for draft in drafts_told(text)])


def drafts_told(text):
    """The lists of what each Patch of a text is made with, or BadText."""
    if not isinstance(text, str):
        raise BadText(0)
    drafts = []
    for index, row in enumerate(rows_told(text)):
        if not took_row(drafts, row):
            raise BadText(index)
    return drafts


def took_row(drafts, row):
    """Whether drafts took what a row behind those ahead tells, a further draft if it is of a patch."""
    kind, blank, rest = row.partition(" ")
    if kind != "patch":
        return blank != "" and len(drafts) > 0 and took(drafts[-1], kind, rest)
    if not is_name(rest) or (len(drafts) > 0 and rest <= drafts[-1][0]):
        return False
    drafts.append([rest, [], [], [], []])
    return True


def took(draft, kind, text):
    """Whether a draft took what a row behind those ahead tells."""
    if kind not in KINDS or any([len(later) > 0 for later in draft[KINDS[kind] + 1:]]):
        return False
    told = draft[KINDS[kind]]
    thing = thing_told(draft, kind, text)
    if thing is None or (kind != "says" and len(told) > 0 and thing <= told[-1]):
        return False
    told.append(thing)
    return True


def thing_told(draft, kind, text):
    """What a row tells, None if it is not so written, or Patch refuses it."""
    name = draft[0]
    if kind == "says":
        return text if is_words(text) else None
    if kind == "order":
        order = order_told(text)
        return order if may_order(name, len(draft[1]), order) else None
    if kind == "bury":
        line = line_told(text)
        return line if may_bury(name, line) else None
    other, _, rest = text.partition(" ")
    back = (other, line_told(rest))
    return back if may_undo(name, back) else None
