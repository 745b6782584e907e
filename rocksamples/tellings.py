"""The calls that only tell: none of them changes the store.

Each takes the store and its arguments by their names. These are in their ranges, and the pieces and
boxes that they name are there.
"""

from rocksamples.labels import label_of
from rocksamples.matching import NO_LABEL, expected_of_cover, first_best_matching, found_of_cover
from rocksamples.matching import surely_foreign, surely_is, surely_missing, surely_there
from rocksamples.patterns import fits, is_pattern, parts_of

MOST_FOUND = 8
MOST_EXPECTED = 10


def counted(numbers):
    return [len(numbers)] + numbers


def as_number(truth):
    return 1 if truth else 0


def tell_piece(store, given):
    piece = store.pieces[given["n"]]
    masses = [piece.made, piece.mass, piece.used, piece.lost]
    return [piece.source] + masses + [as_number(piece.gone), store.piece_holder(piece), piece.box, piece.warm]


def tell_box(store, given):
    number = given["b"]
    box = store.boxes[number]
    frost = as_number(store.is_in_frost(number))
    return [store.box_holder(number), box.outer, box.seal, frost, as_number(store.is_open(number))]


def tell_manifest(store, given):
    return counted(store.manifest(given["b"]))


def tell_sums(store, given):
    piece = store.pieces[given["n"]]
    family = store.family(piece)
    masses = sum([one.mass for one in family])
    used = sum([one.used for one in family])
    lost = sum([one.lost for one in family])
    return [piece.made, len(family), masses, used, lost]


def read_label(store, given):
    pattern = given["text"]
    if not is_pattern(pattern):
        return [-4]
    return counted(sorted([label for label in store.pieces if fits(label, pattern)]))


def tell_best(readings, expected):
    chosen = first_best_matching(readings)
    return [len(chosen) - chosen.count(NO_LABEL)] + counted(chosen)


def tell_sure(readings, expected):
    sure = counted(surely_is(readings))
    there = counted(surely_there(readings, expected))
    missing = counted(surely_missing(readings, expected))
    return sure + there + missing + counted(surely_foreign(readings))


def tell_cover(readings, expected):
    return counted(found_of_cover(readings)) + counted(expected_of_cover(readings, expected))


def tell_chain(store, given):
    handings = [handing for handing in store.handings if given["n"] in handing[3]]
    told = [len(handings)]
    for handing in handings:
        told.extend(handing[:3])
    return told


def tell_warm(store, given):
    pieces = [piece for piece in store.pieces.values() if not piece.gone]
    return counted(sorted([piece.label for piece in pieces if piece.warm >= given["least"]]))


def tell_label(store, given):
    return [label_of(given["k"])]


TELLINGS = {
    15: tell_piece,
    16: tell_box,
    17: tell_manifest,
    18: tell_sums,
    19: read_label,
    23: tell_chain,
    24: tell_warm,
    25: tell_label,
}

# Those that speak of found and expected labels: they share their refusals.
MATCHINGS = {
    20: tell_best,
    21: tell_sure,
    22: tell_cover,
}


# 0 is none.
def matching_refusal(found, expected):
    for part in found:
        if not is_pattern(part):
            return -4
    if len(found) > MOST_FOUND or len(expected) > MOST_EXPECTED:
        return -5
    return 0


def tell_matching(store, number, given):
    found = parts_of(given["text"])
    expected = store.manifest(given["b"])
    refusal = matching_refusal(found, expected)
    if refusal != 0:
        return [refusal]
    readings = []
    for pattern in found:
        readings.append([label for label in expected if fits(label, pattern)])
    return MATCHINGS[number](readings, expected)


def tell(store, number, given):
    if number in MATCHINGS:
        return tell_matching(store, number, given)
    return TELLINGS[number](store, given)
