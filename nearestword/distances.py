"""Minimum distances, and certificates that show them."""

from itertools import combinations

from nearestword.changes import punctured
from nearestword.errors import NotInCode
from nearestword.fields import int_power
from nearestword.limits import choose, require_few
from nearestword.matrices import rank_of, reduce_rows, transpose
from nearestword.words import is_word, support_of, weight_of


def minimum_distance(code):
    """The least weight of a word other than the zero word, None if there is none."""
    # The zero word is the first one in ascending order.
    return min([weight_of(word) for word in code.words()[1:]], default=None)


def lightest_words(code):
    """The words of the least weight other than 0, in ascending order."""
    words = code.words()[1:]
    least = min([weight_of(word) for word in words], default=None)
    return [word for word in words if weight_of(word) == least]


def distance_by_columns(code):
    """The least number of positions of a dependent set, None for the dimension 0."""
    if code.dimension == 0:
        return None
    redundancy = code.length - code.dimension
    require_few(sum([choose(code.length, size) for size in range(redundancy + 1)]))
    columns = transpose(code.checks, code.length)
    for many in range(1, redundancy + 1):
        for chosen in combinations(columns, many):
            if rank_of(code.field, list(chosen), redundancy) < many:
                return many
    # So many columns are more than the items of each of them.
    return redundancy + 1


def errors_mended(code):
    """The greatest number of errors that leave at most one word as near."""
    distance = minimum_distance(code)
    return code.length if distance is None else (distance - 1) // 2


def errors_found(code):
    """The greatest number of changes that never lead to another word of the code."""
    distance = minimum_distance(code)
    return code.length if distance is None else distance - 1


def erasures_mended(code):
    """The greatest number of erased positions that never hide a difference."""
    return errors_found(code)


def information_sets(code):
    """The information sets that are found one after the other, without common positions."""
    rows = code.rows
    found = []
    unused = list(range(code.length))
    while code.dimension > 0:
        _, pivots = reduce_rows(code.field, [[row[at] for at in unused] for row in rows])
        if len(pivots) < code.dimension:
            break
        found.append([unused[pivot] for pivot in pivots])
        unused = [at for at in unused if at not in found[-1]]
    return found


def _rows_at(code, positions):
    """The rows with 1 at one of the positions each and 0 at the others; None if there are no such rows.

    There are as many positions as the dimension, and they are different.
    """
    order = positions + [at for at in range(code.length) if at not in positions]
    reduced, pivots = reduce_rows(code.field, [[row[at] for at in order] for row in code.rows])
    if pivots != list(range(code.dimension)):
        return None
    place_of = {at: place for place, at in enumerate(order)}
    return [[row[place_of[at]] for at in range(code.length)] for row in reduced]


def _first_layer(rows):
    """The words of the messages with one item that is not 0, this item being 1."""
    return list(enumerate(rows))


def _next_layer(field, rows, layer):
    """The words of the messages with one item more that is not 0.

    A layer has pairs of the last place of the message that is not 0, and the word. The first item
    that is not 0 is always 1: the other messages give multiples of these words.
    """
    return [
        (place, field.plus_multiple(word, factor, rows[place]))
        for last, word in layer
        for place in range(last + 1, len(rows))
        for factor in range(1, field.order)
    ]


def _led_by_one(field, word):
    """The first one, in ascending order, of the multiples of a word other than the zero word."""
    return field.multiple(field.inverse(word[support_of(word)[0]]), word)


def _lightest_in(field, layers):
    """The least weight of a word of the layers, and the first word of this weight."""
    words = [word for layer in layers for _, word in layer]
    least = min([weight_of(word) for word in words])
    return (least, min([_led_by_one(field, word) for word in words if weight_of(word) == least]))


def _require_level(code, level):
    """Raises TooLarge if the messages of the level are too many to be looked at."""
    others = code.field.order - 1
    require_few(sum([choose(code.dimension, many) * int_power(others, many) for many in range(level + 1)]))


def _is_enough(code, sets, level, distance):
    """Tells whether every word that is not seen at the level has at least this weight."""
    return level == code.dimension or len(sets) * (level + 1) >= distance


def distance_certificate(code):
    """A certificate of the minimum distance, None for the dimension 0."""
    if code.dimension == 0:
        return None
    sets = information_sets(code)
    bases = [_rows_at(code, positions) for positions in sets]
    layers = [_first_layer(rows) for rows in bases]
    level = 1
    _require_level(code, level)
    best = _lightest_in(code.field, layers)
    while not _is_enough(code, sets, level, best[0]):
        level += 1
        _require_level(code, level)
        layers = [_next_layer(code.field, rows, layer) for rows, layer in zip(bases, layers)]
        best = min(best, _lightest_in(code.field, layers))
    return (best[1], sets, level)


def _has_weight(code, word, weight):
    """Tells whether the list is a word of the code that has this weight, which is at least 1."""
    if weight < 1 or not is_word(code.field, code.length, word):
        return False
    return code.contains(word) and weight_of(word) == weight


def _bases_of(code, sets):
    """The rows at each of the information sets, None if the sets do not fit a certificate."""
    positions = [at for chosen in sets for at in chosen]
    if not sets or any(len(chosen) != code.dimension for chosen in sets):
        return None
    if any(at < 0 or at >= code.length for at in positions) or len(set(positions)) != len(positions):
        return None
    bases = [_rows_at(code, chosen) for chosen in sets]
    return None if any(rows is None for rows in bases) else bases


def _keeps_distance(code, rows, level, distance):
    """Tells whether the words that are seen by one information set have at least the weight."""
    layer = _first_layer(rows)
    for many in range(1, level + 1):
        if any(weight_of(word) < distance for _, word in layer):
            return False
        if many < level:
            layer = _next_layer(code.field, rows, layer)
    return True


def check_distance(code, distance, certificate):
    """Tells whether the certificate shows the distance."""
    word, sets, level = certificate
    if code.dimension == 0 or not _has_weight(code, word, distance):
        return False
    bases = _bases_of(code, sets)
    if bases is None or level < 1 or level > code.dimension:
        return False
    if not _is_enough(code, sets, level, distance):
        return False
    _require_level(code, level)
    return all(_keeps_distance(code, rows, level, distance) for rows in bases)


def residual(code, word):
    """The words of the code without the positions of the support of one of them."""
    if not code.contains(word):
        raise NotInCode("the word does not belong to the code")
    return punctured(code, support_of(word))
