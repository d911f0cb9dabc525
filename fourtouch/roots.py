"""Roots: what fours are led down to, and papers about the heaps of two fours."""

from fourtouch.walks import curvatures_at, exchanged_numbers, four_at


def number_above(numbers):
    """Return the number of the one of four numbers that is above the sum of the three others, or None."""
    greatest = max(numbers)
    if 2 * greatest <= sum(numbers):
        return None
    return numbers.index(greatest) + 1


def led_down(curvatures):
    """Return the word that leads four curvatures down to those of a root, and these."""
    word = []
    number = number_above(curvatures)
    while number is not None:
        curvatures = exchanged_numbers(curvatures, number)
        word.append(number)
        number = number_above(curvatures)
    return (tuple(word), curvatures)


def way_down(four):
    """Return the word that leads a four down to a root."""
    return led_down(four.curvatures())[0]


def root_of(four):
    """Return the root that a four is led down to; a root itself is returned as it is."""
    word = way_down(four)
    if not word:
        return four
    return four_at(four, word)


def root_curvatures(four):
    """Return the curvatures of the root of a four, ascending."""
    return tuple(sorted(led_down(four.curvatures())[1]))


def alike_heaps(one, other):
    """Tell whether the heaps of two fours are the same but for moving, turning and mirroring."""
    return root_curvatures(one) == root_curvatures(other)


def heap_paper(one, other):
    """Return the paper that shows whether the heaps of two fours are alike."""
    word = "alike" if alike_heaps(one, other) else "unlike"
    return (word, way_down(one), way_down(other))


def check_heap_paper(one, other, told):
    """Tell whether a paper about the heaps of two fours is right."""
    word, way, other_way = told
    # Both ways are walked ahead of all else: what is no word is an error in every paper.
    curvatures = sorted(curvatures_at(one.curvatures(), way))
    other_curvatures = sorted(curvatures_at(other.curvatures(), other_way))
    if word == "alike":
        return curvatures == other_curvatures
    if word == "unlike":
        are_roots = number_above(curvatures) is None and number_above(other_curvatures) is None
        return are_roots and curvatures != other_curvatures
    return False
