"""Cosets of a code, their leaders, and the covering radius."""

from nearestword.fields import int_power
from nearestword.limits import require_few
from nearestword.matrices import transpose
from nearestword.words import all_words, require_word, weight_of, zero_word


def leaders(code):
    """Pairs of a syndrome and its leaders, in ascending order of the syndromes."""
    require_few(int_power(code.field.order, code.length))
    found = {}
    for word in all_words(code.field, code.length):
        syndrome = tuple(code.syndrome(word))
        lightest = found.get(syndrome, [])
        if not lightest or weight_of(word) < weight_of(lightest[0]):
            found[syndrome] = [word]
        elif weight_of(word) == weight_of(lightest[0]):
            lightest.append(word)
    return sorted(found.items())


def _multiples(field, vector):
    """The multiples of the vector by all elements except 0."""
    return [tuple(field.multiple(factor, vector)) for factor in range(1, field.order)]


def _reach_further(field, many, reached, layer, steps):
    """Marks what is one step beyond the layer as reached, and returns the next layer.

    A layer has one of the multiples of each syndrome: the others need as many steps.
    """
    further = []
    for start in layer:
        if len(reached) == many:
            break
        for step in steps:
            syndrome = tuple(field.plus_multiple(start, 1, step))
            if syndrome not in reached:
                further.append(syndrome)
                for multiple in _multiples(field, syndrome):
                    reached[multiple] = True
    return further


def leader_weights(code):
    """The number of syndromes whose leaders have each weight, up to the covering radius."""
    field = code.field
    redundancy = code.length - code.dimension
    many = int_power(field.order, redundancy)
    require_few(many)
    # Leaders of the weight w have a syndrome that is a sum of multiples of w columns, and of no fewer.
    columns = transpose(code.checks, code.length)
    steps = sorted({multiple for column in columns for multiple in _multiples(field, column)})
    layer = [tuple(zero_word(redundancy))]
    reached = {layer[0]: True}
    counts = [1]
    while len(reached) < many:
        before = len(reached)
        layer = _reach_further(field, many, reached, layer, steps)
        counts.append(len(reached) - before)
    return counts


def covering_radius(code):
    """The greatest weight of a leader."""
    return len(leader_weights(code)) - 1


def coset_of(code, word):
    """The words with the same syndrome as the word, in ascending order."""
    require_word(code.field, code.length, word)
    return sorted([code.field.plus_multiple(word, 1, other) for other in code.words()])


def deep_holes(code):
    """The words whose distance from the nearest word of the code is the covering radius."""
    first_leaders = [words[0] for _, words in leaders(code)]
    radius = max([weight_of(leader) for leader in first_leaders])
    far = [leader for leader in first_leaders if weight_of(leader) == radius]
    return sorted([word for leader in far for word in coset_of(code, leader)])
