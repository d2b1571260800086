"""Common rows of two texts: a longest one, how many there are, and what is in all of them."""

from patchlots.errors import NoText
from patchlots.kinds import is_list, is_number, is_pair, wrong_words


def check_texts(texts):
    """NoText for the first thing that is no words, of the earlier text first."""
    for text in texts:
        index = wrong_words(text)
        if index is not None:
            raise NoText(index)


def matches_of(one, other):
    """The matches of two texts, in THE ORDER."""
    return [(i, j) for i, words in enumerate(one) for j, said in enumerate(other) if words == said]


def levels_in(one, other):
    """The dict from matches, in THE ORDER, to the number of those in the longest row that ends with it."""
    before = [0 for _ in other]
    levels = {}
    for i, words in enumerate(one):
        found = []
        ahead = 0
        for j, said in enumerate(other):
            longest = max([before[j]] + found[-1:])
            if words == said:
                levels[(i, j)] = ahead + 1
                longest = max([longest, ahead + 1])
            ahead = before[j]
            found.append(longest)
        before = found
    return levels


def levels_behind(one, other):
    """The dict from matches to the number of those in the longest row that begins with it."""
    turned_levels = levels_in(one[::-1], other[::-1])
    return {(len(one) - 1 - i, len(other) - 1 - j): level for (i, j), level in turned_levels.items()}


def by_level(levels):
    """The lists of the matches of each level, from 1 on, in THE ORDER."""
    found = [[] for _ in range(max(list(levels.values()), default=0))]
    for match, level in levels.items():
        found[level - 1].append(match)
    return found


def comes_behind(match, other):
    """Whether a match comes behind another one."""
    return match[0] > other[0] and match[1] > other[1]


def longest_levels(one, other):
    """The lists of those matches of each level that are in some longest common row."""
    levels = levels_in(one, other)
    rest = levels_behind(one, other)
    longest = max(list(levels.values()), default=0)
    return by_level({match: level for match, level in levels.items()
                     if level + rest[match] == longest + 1})


def common_row(one, other):
    """A common row of as many matches as can be."""
    check_texts([one, other])
    row = []
    for matches in longest_levels(one, other):
        row.append([match for match in matches if len(row) == 0 or comes_behind(match, row[-1])][0])
    return row


def is_match(one, other, thing):
    """Whether any object is a match of two texts."""
    if not is_pair(thing) or not is_number(thing[0]) or not is_number(thing[1]):
        return False
    return thing[0] < len(one) and thing[1] < len(other) and one[thing[0]] == other[thing[1]]


def are_matches(one, other, thing):
    """Whether any object is a list of matches of two texts."""
    return is_list(thing) and all([is_match(one, other, match) for match in thing])


def is_common_row(one, other, thing):
    """Whether any object is a common row of two texts."""
    check_texts([one, other])
    return are_matches(one, other, thing) and all(
        [comes_behind(match, thing[index]) for index, match in enumerate(thing[1:])])


def least_cover(one, other):
    """The cover whose list k has the last matches of common rows of k + 1, and of none longer."""
    check_texts([one, other])
    return by_level(levels_in(one, other))


def is_cover(one, other, thing):
    """Whether any object is a cover of two texts."""
    check_texts([one, other])
    if not is_list(thing) or not all([are_matches(one, other, part) for part in thing]):
        return False
    told = [(match[0], match[1]) for part in thing for match in part]
    if not all([len(part) > 0 for part in thing]) or sorted(told) != matches_of(one, other):
        return False
    return not any([comes_behind(match, other_match)
                    for part in thing for match in part for other_match in part])


def rows_ending(levels):
    """The dict from the matches of lists of levels to the number of the rows through them so far."""
    counts = {}
    ahead = None
    for matches in levels:
        for match in matches:
            counts[match] = 1 if ahead is None else sum(
                [counts[other] for other in ahead if comes_behind(match, other)])
        ahead = matches
    return counts


def turned_about(match):
    """The match in texts that are read from their ends."""
    return (-match[0], -match[1])


def rows_through(one, other):
    """The dict from the matches in some longest common row to the number of those that have it."""
    levels = longest_levels(one, other)
    ending = rows_ending(levels)
    starting = rows_ending([[turned_about(match) for match in matches] for matches in levels[::-1]])
    return {match: many * starting[turned_about(match)] for match, many in ending.items()}


def many_common_rows(one, other):
    """The number of the longest common rows."""
    check_texts([one, other])
    levels = longest_levels(one, other)
    if len(levels) == 0:
        return 1
    counts = rows_ending(levels)
    return sum([counts[match] for match in levels[-1]])


def matches_in_all(one, other):
    """The matches, in THE ORDER, that stand in all longest common rows."""
    total = many_common_rows(one, other)
    return sorted([match for match, many in rows_through(one, other).items() if many == total])


def matches_in_some(one, other):
    """The matches, in THE ORDER, that stand in some longest common row."""
    check_texts([one, other])
    return sorted(rows_through(one, other))


def rows_at_places(one, other):
    """For each place of the one the number of the longest common rows that have a match there."""
    found = [0 for _ in one]
    for match, many in rows_through(one, other).items():
        found[match[0]] = found[match[0]] + many
    return found


def surely_kept(one, other):
    """The places of the one that have a match in each longest common row."""
    total = many_common_rows(one, other)
    return [place for place, many in enumerate(rows_at_places(one, other)) if many == total]


def surely_taken(one, other):
    """The places of the one that have a match in no longest common row."""
    check_texts([one, other])
    return [place for place, many in enumerate(rows_at_places(one, other)) if many == 0]
