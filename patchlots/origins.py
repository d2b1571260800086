"""What befell the lines of a lot, and by whom."""

from patchlots.families import least_of, part_pages
from patchlots.lots import Lot, page_of
from patchlots.needs import sent_to
from patchlots.readable import readable_parts
from patchlots.reading import is_ahead, line_on


def story_of(lot, line):
    """What befell a line along the first history: triples (name, what, other or None)."""
    told = line_on(page_of(lot), line)
    story = []
    for name in sent_to(Lot([]), lot):
        patch = lot.patch_of(name)
        if told in patch.own_lines():
            story.append((name, "put", None))
        if told in patch.burials():
            story.append((name, "buried", None))
        story.extend([(name, "undone", other) for other, buried in patch.backs() if buried == told])
    return story


def ahead_by(lot, one, other):
    """The least parts in whose pages the one line is ahead of the other."""
    page = page_of(lot)
    first = line_on(page, one)
    last = line_on(page, other)
    return least_of([
        names for names, part in part_pages(lot)
        if first[0] in names and last[0] in names and is_ahead(part, first, last)
    ])


def dead_by(lot, line):
    """The least parts in whose pages a line stands and is dead."""
    told = line_on(page_of(lot), line)
    return least_of([names for names, part in part_pages(lot) if told in part.dead()])


def tried_parts(lot):
    """The parts whose pages read."""
    return readable_parts(lot)
