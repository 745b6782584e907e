"""The object that the calls are made on: its pieces, its boxes, its handings over."""


class Piece:
    def __init__(self, label, mass, holder):
        self.label = label
        # The label of the piece it was split from; -1 is none.
        self.source = -1
        self.made = mass
        self.mass = mass
        self.used = 0
        self.lost = 0
        self.gone = False
        # The number of its box; 0 is loose.
        self.box = 0
        # Counts only while the piece is loose: else the outermost box tells who holds it.
        self.holder = holder
        self.warm = 0


class Box:
    def __init__(self, holder):
        # Counts only while the box is an outermost one.
        self.holder = holder
        # The number of the box that it's in; 0 is none.
        self.outer = 0
        # 0 is none.
        self.seal = 0
        self.frost = False


class Store:
    def __init__(self):
        # By label, gone ones too.
        self.pieces = {}
        # By number, from 1 on.
        self.boxes = {}
        # Each one's minute, from whom, to whom, and the labels of its pieces.
        self.handings = []
        self.minute = 0

    def outermost(self, number):
        while self.boxes[number].outer != 0:
            number = self.boxes[number].outer
        return number

    def box_holder(self, number):
        return self.boxes[self.outermost(number)].holder

    def piece_holder(self, piece):
        if piece.box == 0:
            return piece.holder
        return self.box_holder(piece.box)

    # No box (0) counts as open: what's in none is shut off by none.
    def is_open(self, number):
        while number != 0:
            if self.boxes[number].seal != 0:
                return False
            number = self.boxes[number].outer
        return True

    def is_reachable(self, piece):
        return self.is_open(piece.box)

    # Whether it or a box around it is kept in frost; no box (0) isn't.
    def is_in_frost(self, number):
        while number != 0:
            if self.boxes[number].frost:
                return True
            number = self.boxes[number].outer
        return False

    def is_cold(self, piece):
        return self.is_in_frost(piece.box)

    # A box counts as within itself; no box (0) is within none.
    def is_within(self, inner, number):
        while inner != 0:
            if inner == number:
                return True
            inner = self.boxes[inner].outer
        return False

    def manifest(self, number):
        return sorted([piece.label for piece in self.pieces.values() if self.is_within(piece.box, number)])

    # Pieces are kept in the order in which they were made, so each comes behind the one it was split
    # from, and one walk finds every generation.
    def family(self, piece):
        labels = {piece.label: True}
        members = [piece]
        for other in self.pieces.values():
            if other.source in labels:
                labels[other.label] = True
                members.append(other)
        return members

    # The holder is asked for ahead of the box's being left: the box tells it.
    def make_loose(self, piece):
        piece.holder = self.piece_holder(piece)
        piece.box = 0

    def make_gone(self, piece):
        self.make_loose(piece)
        piece.gone = True

    def note_handing(self, giver, taker, labels):
        self.handings.append((self.minute, giver, taker, labels))
