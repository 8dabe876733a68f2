"""Reports about a code, as text."""

from nearestword.cosets import leaders
from nearestword.distances import minimum_distance
from nearestword.enumerators import enumerator
from nearestword.notation import format_word


def parameters(code):
    """The line with the length, the dimension, the minimum distance and the order of the field."""
    distance = minimum_distance(code)
    shown = "-" if distance is None else str(distance)
    return f"[{code.length}, {code.dimension}, {shown}] over {code.field.order} elements"


def _aligned(column):
    """The entries, padded on their left to the width of the widest one."""
    width = max([len(entry) for entry in column])
    return [entry.rjust(width) for entry in column]


def weight_table(code):
    """A line for each weight of a word: the weight and the number of words."""
    pairs = [(weight, count) for weight, count in enumerate(enumerator(code)) if count > 0]
    weights = _aligned([str(weight) for weight, _ in pairs])
    counts = _aligned([str(count) for _, count in pairs])
    return "\n".join([f"{weight} {count}" for weight, count in zip(weights, counts)])


def leader_table(code):
    """A line for each syndrome: the syndrome and its leaders."""
    lines = []
    for syndrome, words in leaders(code):
        shown = format_word(syndrome) if syndrome else "-"
        lines.append(shown + ": " + ", ".join([format_word(word) for word in words]))
    return "\n".join(lines)
