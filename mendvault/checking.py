"""Checking: papers held against digests, or against what is opened."""

from mendvault.digests import grown_digest, leaf_digest, node_digest, state_digest
from mendvault.errors import BadPaper, BadText, BadValue
from mendvault.figures import number_of
from mendvault.limits import check_ranges
from mendvault.opening import opened
from mendvault.records import edit_text, read_edit, read_line

# The most figures of a number in a paper.
MOST_FIGURES = 4000


def climbed(text, at, many, partners):
    """The root of so many texts, of which this one has the number at, by its partners from below."""
    check_ranges(((1, at, 0, many - 1),))
    number = leaf_digest(text)
    place = at
    level = many
    used = 0
    while level > 1:
        if place % 2 == 1 or place + 1 < level:
            if used == len(partners):
                raise BadValue(3)
            number = above(number, partners[used], place)
            used = used + 1
        place = place // 2
        level = (level + 1) // 2
    if used < len(partners):
        raise BadValue(3)
    return number


def above(number, partner, place):
    """The digest of the number that is at this place of its level, and its partner."""
    if place % 2 == 1:
        return node_digest(partner, number)
    return node_digest(number, partner)


def belongs_holds(paper, number):
    """The name and the content that the paper tells to be put in what has this digest."""
    try:
        head, begin = read_line(paper, 0)
        edit, end = read_edit(paper, begin)
        tail, behind = read_line(paper, end)
        places = numbers_behind("belongs", head)
        partners = numbers_behind("by", tail)
        text = paper[begin:end]
        check(len(places) == 2 and behind == len(paper) and edit[0] == "put" and text == edit_text(edit))
        reached = climbed(text, places[0], places[1], partners)
    except (BadText, BadValue):
        raise BadPaper(0)
    check(reached == number)
    return edit[1], edit[2]


def grown_holds(paper, elder, newer):
    """How many digests the paper tells that lead from the elder history to the newer one."""
    try:
        head, begin = read_line(paper, 0)
    except BadText:
        raise BadPaper(0)
    check(len(numbers_behind("grown", head)) == 1)
    lines = paper[begin:].split("\n")
    # Behind the last line feed there is nothing.
    check(lines[-1] == "")
    told = numbers_of(lines[:-1])
    reached = elder
    for each in told:
        reached = grown_digest(reached, each)
    check(reached == newer)
    return len(told)


def same_holds(paper, pieces, others):
    """Whether what is read of the pieces, and of the others, are states with the digest that the paper tells."""
    try:
        words, end = read_line(paper, 0)
        told = numbers_behind("same", words)
    except (BadText, BadPaper):
        return False
    if len(told) != 1 or end != len(paper):
        return False
    return all([state_digest(opened(each).state) == told[0] for each in (pieces, others)])


def numbers_behind(word, words):
    """The numbers behind the first one of the words, which must be this one."""
    check(words[0] == word)
    return numbers_of(words[1:])


def numbers_of(words):
    """The numbers that the words are."""
    numbers = [number_of(word, MOST_FIGURES) for word in words]
    check(None not in numbers)
    return numbers


def check(holds):
    """BadPaper if something does not hold of the paper."""
    if not holds:
        raise BadPaper(0)
