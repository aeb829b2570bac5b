"""Shut sets: words and middles that a machine, begun on the empty strip, never gets out of."""

from endnever.errors import NoWidth
from endnever.machines import must_machine

# The greatest width of which there are at most sixteen words, by how many signs there are.
MOST_WIDTHS = {2: 4, 3: 2, 4: 2}


def is_width(machine, width):
    return 1 <= width <= MOST_WIDTHS[len(machine[0])]


def is_word(machine, width, word):
    return len(word) == width and all([0 <= sign < len(machine[0]) for sign in word])


def is_middle(machine, width, middle):
    left, row, sign, right = middle
    if not is_word(machine, width, left) or not is_word(machine, width, right):
        return False
    return 0 <= row < len(machine) and 0 <= sign < len(machine[0])


def ends_at(machine, middle):
    left, row, sign, right = middle
    return machine[row][sign] == ()


def asked(machine, middle, lefts, rights):
    """The left words, the right words and the middles that a middle asks for, beside these words.

    The entry of the middle is not the empty one.
    """
    left, row, sign, right = middle
    put, way, after = machine[row][sign]
    signs = len(machine[0])
    if way == 1:
        new_left = left[1:] + (put,)
        words = [right[1:] + (far,) for far in range(signs)]
        return ([new_left], [], [(new_left, after, right[0], word) for word in words if word in rights])
    new_right = (put,) + right[:-1]
    words = [(far,) + left[:-1] for far in range(signs)]
    return ([], [new_right], [(word, after, left[-1], new_right) for word in words if word in lefts])


def is_kept(machine, middle, lefts, rights, middles):
    """Whether a middle doesn't end, and all that it asks for is there."""
    if ends_at(machine, middle):
        return False
    left_words, right_words, others = asked(machine, middle, lefts, rights)
    there = [word in lefts for word in left_words] + [word in rights for word in right_words]
    return all(there) and all([other in middles for other in others])


def shows_shut(machine, paper):
    """Whether a shut paper shows that a machine never ends."""
    must_machine(machine)
    kind, width, lefts, rights, middles = paper
    if not is_width(machine, width):
        return False
    if not all([is_word(machine, width, word) for word in lefts + rights]):
        return False
    if not all([is_middle(machine, width, middle) for middle in middles]):
        return False
    noughts = (0,) * width
    if noughts not in lefts or noughts not in rights or (noughts, 0, 0, noughts) not in middles:
        return False
    left_words = {word: True for word in lefts}
    right_words = {word: True for word in rights}
    all_middles = {middle: True for middle in middles}
    return all([is_kept(machine, middle, left_words, right_words, all_middles) for middle in all_middles])


def least_shut(machine, width):
    """The shut paper with the least lists of a width, or None where a middle among them ends."""
    must_machine(machine)
    if not is_width(machine, width):
        raise NoWidth("this is no width for the machine's signs")
    noughts = (0,) * width
    lefts = {noughts: True}
    rights = {noughts: True}
    middles = {(noughts, 0, 0, noughts): True}
    before = 0
    # Words that come later ask for more middles of those before: so all are gone through until nothing comes.
    while before < len(lefts) + len(rights) + len(middles):
        before = len(lefts) + len(rights) + len(middles)
        for middle in list(middles):
            if ends_at(machine, middle):
                return None
            left_words, right_words, others = asked(machine, middle, lefts, rights)
            lefts.update({word: True for word in left_words})
            rights.update({word: True for word in right_words})
            middles.update({other: True for other in others})
    return ("shut", width, sorted(lefts), sorted(rights), sorted(middles))
