"""Three texts: a base, and what two hands made of it, merged by common rows."""

from patchlots.commonrows import check_texts, comes_behind, is_common_row, longest_levels
from patchlots.errors import NoRow


def gaps_between(base, one, other, left, right):
    """The gaps of three texts by two common rows, and the lines that are held behind each but one."""
    mine = {match[0]: match[1] for match in left}
    theirs = {match[0]: match[1] for match in right}
    ends = [(place, mine[place], theirs[place]) for place in mine if place in theirs]
    found = []
    start = (0, 0, 0)
    for end in ends + [(len(base), len(one), len(other))]:
        found.append((list(base[start[0]:end[0]]), list(one[start[1]:end[1]]), list(other[start[2]:end[2]])))
        start = (end[0] + 1, end[1] + 1, end[2] + 1)
    return found, [base[place] for place, _, _ in ends]


def given(gap):
    """The lines that a gap gives, None if it is a clash."""
    base, one, other = gap
    if one == base:
        return other
    if other == base or other == one:
        return one
    return None


def merged_between(base, one, other, left, right):
    """The text of gaps and held lines by two common rows, None if a gap clashes."""
    told, held = gaps_between(base, one, other, left, right)
    lines = [given(gap) for gap in told]
    if any([part is None for part in lines]):
        return None
    text = list(lines[0])
    for words, part in zip(held, lines[1:]):
        text.extend([words] + part)
    return text


def check_rows(base, one, other, left, right):
    """NoText for no text, then NoRow for the first of both rows that is no common row."""
    check_texts([base, one, other])
    if not is_common_row(base, one, left):
        raise NoRow(left)
    if not is_common_row(base, other, right):
        raise NoRow(right)


def gaps(base, one, other, left, right):
    """The triples of the lines of the base, the one and the other in all gaps, in order."""
    check_rows(base, one, other, left, right)
    return gaps_between(base, one, other, left, right)[0]


def merged(base, one, other, left, right):
    """The text of gaps and held lines, None if a gap clashes."""
    check_rows(base, one, other, left, right)
    return merged_between(base, one, other, left, right)


def longest_rows(one, other):
    """All longest common rows of two texts, in THE ORDER."""
    rows = [[]]
    for matches in longest_levels(one, other):
        rows = [row + [match] for row in rows for match in matches
                if len(row) == 0 or comes_behind(match, row[-1])]
    return rows


def first_pair(base, one, other, clashing):
    """The first pair of longest common rows by which something clashes, or by which nothing does."""
    check_texts([base, one, other])
    rows = longest_rows(base, other)
    for left in longest_rows(base, one):
        for right in rows:
            if (merged_between(base, one, other, left, right) is None) == clashing:
                return (left, list(right))
    return None


def merge_somehow(base, one, other):
    """A pair of longest common rows with which nothing clashes, None if there is none."""
    return first_pair(base, one, other, False)


def clash_somehow(base, one, other):
    """A pair of longest common rows with which something clashes, None if there is none."""
    return first_pair(base, one, other, True)


def all_merged(base, one, other):
    """All texts that are merged by longest common rows, each once, in THE ORDER."""
    check_texts([base, one, other])
    rows = longest_rows(base, other)
    texts = [merged_between(base, one, other, left, right)
             for left in longest_rows(base, one) for right in rows]
    return [list(told) for told in sorted({tuple(text) for text in texts if text is not None})]
