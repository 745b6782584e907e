"""The calls that change the store, each with its own refusals.

Each takes the store and its arguments by their names. These are in their ranges, and the pieces and
boxes that they name are there. A call looks at all its refusals ahead of its first change, so that a
refused one leaves the store as it was.
"""

from rocksamples.labels import label_of
from rocksamples.store import Box, Piece

MOST_PIECES = 40
MOST_BOXES = 10
MOST_HANDINGS = 200
LAST_MINUTE = 1000000000


def sample(store, given):
    label = label_of(given["k"])
    if label in store.pieces:
        return [-4]
    if len(store.pieces) >= MOST_PIECES:
        return [-5]
    store.pieces[label] = Piece(label, given["mass"], given["p"])
    return [label]


def split_piece(store, given):
    piece = store.pieces[given["n"]]
    label = label_of(given["k"])
    if not store.is_reachable(piece):
        return [-4]
    if piece.mass <= given["mass"]:
        return [-5]
    if label in store.pieces:
        return [-6]
    if len(store.pieces) >= MOST_PIECES:
        return [-7]
    part = Piece(label, given["mass"], piece.holder)
    part.source = piece.label
    part.box = piece.box
    part.warm = piece.warm
    piece.mass -= given["mass"]
    store.pieces[label] = part
    return [label]


def use(store, given):
    piece = store.pieces[given["n"]]
    if not store.is_reachable(piece):
        return [-4]
    if piece.mass < given["mass"]:
        return [-5]
    piece.mass -= given["mass"]
    piece.used += given["mass"]
    if piece.mass == 0:
        store.make_gone(piece)
    return [piece.mass]


# A piece is lost out of a sealed box, too: being reachable isn't asked for.
def lose(store, given):
    piece = store.pieces[given["n"]]
    mass = piece.mass
    piece.lost += mass
    piece.mass = 0
    store.make_gone(piece)
    return [mass]


def make_box(store, given):
    if len(store.boxes) >= MOST_BOXES:
        return [-5]
    number = len(store.boxes) + 1
    store.boxes[number] = Box(given["p"])
    return [number]


def put(store, given):
    piece = store.pieces[given["n"]]
    number = given["b"]
    if piece.box != 0:
        return [-4]
    if not store.is_open(number):
        return [-5]
    if piece.holder != store.box_holder(number):
        return [-6]
    piece.box = number
    return [0]


def take(store, given):
    piece = store.pieces[given["n"]]
    if piece.box == 0:
        return [-4]
    if not store.is_open(piece.box):
        return [-5]
    store.make_loose(piece)
    return [piece.holder]


def nest(store, given):
    number = given["b"]
    outer = given["o"]
    box = store.boxes[number]
    if box.outer != 0:
        return [-4]
    if store.is_within(outer, number):
        return [-5]
    if not store.is_open(outer):
        return [-6]
    if box.holder != store.box_holder(outer):
        return [-7]
    box.outer = outer
    return [0]


def unnest(store, given):
    box = store.boxes[given["b"]]
    if box.outer == 0:
        return [-4]
    if not store.is_open(box.outer):
        return [-5]
    box.holder = store.box_holder(box.outer)
    box.outer = 0
    return [box.holder]


def seal_box(store, given):
    if not store.is_open(given["b"]):
        return [-4]
    box = store.boxes[given["b"]]
    box.seal = given["mark"]
    return [0]


def open_box(store, given):
    box = store.boxes[given["b"]]
    if box.seal == 0:
        return [-4]
    if not store.is_open(box.outer):
        return [-5]
    if box.seal != given["mark"]:
        return [-6]
    box.seal = 0
    return [0]


# The same three refusals hold for a loose piece and for an outermost box; 0 is none of them.
def handing_refusal(store, around, holder, given):
    if around != 0:
        return -4
    if holder != given["p"] or given["p"] == given["q"]:
        return -5
    if len(store.handings) >= MOST_HANDINGS:
        return -6
    return 0


def hand(store, given):
    piece = store.pieces[given["n"]]
    refusal = handing_refusal(store, piece.box, piece.holder, given)
    if refusal != 0:
        return [refusal]
    piece.holder = given["q"]
    store.note_handing(given["p"], given["q"], [piece.label])
    return [0]


def handbox(store, given):
    box = store.boxes[given["b"]]
    refusal = handing_refusal(store, box.outer, box.holder, given)
    if refusal != 0:
        return [refusal]
    box.holder = given["q"]
    labels = store.manifest(given["b"])
    store.note_handing(given["p"], given["q"], labels)
    return [len(labels)]


def set_frost(store, given):
    box = store.boxes[given["b"]]
    box.frost = given["kept"] == 1
    return [0]


def pass_by(store, given):
    minute = store.minute + given["minutes"]
    if minute > LAST_MINUTE:
        return [-4]
    store.minute = minute
    for piece in store.pieces.values():
        if not piece.gone and not store.is_cold(piece):
            piece.warm += given["minutes"]
    return [minute]


CHANGES = {
    0: sample,
    1: split_piece,
    2: use,
    3: lose,
    4: make_box,
    5: put,
    6: take,
    7: nest,
    8: unnest,
    9: seal_box,
    10: open_box,
    11: hand,
    12: handbox,
    13: set_frost,
    14: pass_by,
}


def carry_out(store, number, given):
    return CHANGES[number](store, given)
