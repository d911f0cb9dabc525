"""Roots: what fours are led down to, and papers about the heaps of two fours."""

from fourtouch.walks import curvatures_at, four_at


def is_low(curvatures):
    """Tell whether the greatest of four curvatures is at most the sum of the others."""
    return 2 * max(curvatures) <= sum(curvatures)


def way_down(four):
    """Return the word that leads a four down to a root."""
    curvatures = list(four.curvatures())
    word = []
    while not is_low(curvatures):
        greatest = max(curvatures)
        at = curvatures.index(greatest)
        curvatures[at] = 2 * sum(curvatures) - 3 * greatest
        word.append(at + 1)
    return tuple(word)


def root_of(four):
    """Return the root that a four is led down to; a root itself is returned as it is."""
    word = way_down(four)
    if not word:
        return four
    return four_at(four, word)


def root_curvatures(four):
    """Return the curvatures of the root of a four, ascending."""
    return tuple(sorted(root_of(four).curvatures()))


def alike_heaps(one, other):
    """Tell whether the heaps of two fours are the same but for moving, turning and mirroring."""
    return root_curvatures(one) == root_curvatures(other)


def heap_paper(one, other):
    """Return the paper that shows whether the heaps of two fours are alike."""
    word = "alike" if alike_heaps(one, other) else "unlike"
    return (word, way_down(one), way_down(other))


def check_heap_paper(one, other, told):
    """Tell whether a paper about the heaps of two fours is right."""
    word, way, other_way = told
    # Both ways are walked ahead of all else: what is no word is an error in every paper.
    curvatures = sorted(curvatures_at(one.curvatures(), way))
    other_curvatures = sorted(curvatures_at(other.curvatures(), other_way))
    if word == "alike":
        return curvatures == other_curvatures
    if word == "unlike":
        return curvatures != other_curvatures and is_low(curvatures) and is_low(other_curvatures)
    return False
