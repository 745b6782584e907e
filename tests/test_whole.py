"""The whole program: drawn lines of up to 200 calls of all kinds, against a plain account of the same things."""

import random
import unittest

from rocksamples.samples import answers
from tests.calling import GOOD_CALLS, NUMBERS, RANGES, LineTest, as_call, is_refusal, plain_best, plain_cover
from tests.calling import plain_fits, plain_patterns, plain_sure, told_apart, with_count, wrong_values

# Small spans, so that calls meet the same things.
SPANS = {
    "k": (0, 60), "n": (0, 999), "mass": (1, 40), "mark": (1, 2), "b": (1, 5), "o": (1, 5), "p": (0, 1), "q": (0, 1),
    "kept": (0, 1), "minutes": (1, 9), "least": (0, 60),
}

# How often a call is drawn, where it's not once: what puts things into others more often than what ends them.
OFTEN = {
    "sample": 3, "split": 3, "put": 5, "nest": 3, "take": 2, "unnest": 4, "open": 5, "box": 2, "hand": 2, "handbox": 2,
    "lose": 0.5,
}


class Refused(Exception):
    pass


def refuse_if(condition, number):
    if condition:
        raise Refused(number)


class PlainAccount:
    """Written the other way round: each piece and box has its holder written down, each piece its own chain, and
    each box the tuple of all the boxes around it."""

    def __init__(self):
        self.pieces = {}
        self.boxes = {}
        self.minute = 0
        self.handings = 0

    def answer(self, name, arguments):
        try:
            self.look_at(name, arguments)
            told = getattr(self, "call_" + name)(*arguments)
        except Refused as refusal:
            return [refusal.args[0]]
        return told if isinstance(told, list) else [told]

    def look_at(self, name, arguments):
        kinds = [kind for kind, good in GOOD_CALLS[name]]
        for kind, value in zip(kinds, arguments):
            if kind == "text":
                refuse_if(len(value) > 60 or any(number not in range(256) for number in value), -1)
            else:
                refuse_if(value not in range(RANGES[kind][0], RANGES[kind][1] + 1), -1)
        for kind, value in zip(kinds, arguments):
            if kind == "n":
                refuse_if(value not in self.pieces, -2)
                refuse_if(name not in ("piece", "sums", "chain") and self.pieces[value]["gone"], -3)
            if kind in ("b", "o"):
                refuse_if(value not in self.boxes, -2)

    def around(self, b):
        """It and all boxes around it, from within."""
        return (b, *self.around(self.boxes[b]["in"])) if b else ()

    def shut(self, b):
        return any(self.boxes[one]["seal"] for one in self.around(b))

    def cold(self, b):
        return any(self.boxes[one]["frost"] for one in self.around(b))

    def within(self, b):
        return sorted(label for label, piece in self.pieces.items() if b in self.around(piece["box"]))

    def new_piece(self, label, mass, source, like):
        self.pieces[label] = {"source": source, "made": mass, "now": mass, "used": 0, "lost": 0, "gone": 0,
                              "holder": like["holder"], "box": like["box"], "warm": like["warm"], "chain": []}
        return label

    def call_label(self, k):
        return int(f"{k}{98 - int(f'{k}00') % 97:02d}")

    def call_sample(self, k, mass, p):
        label = self.call_label(k)
        refuse_if(label in self.pieces, -4)
        refuse_if(len(self.pieces) == 40, -5)
        return self.new_piece(label, mass, -1, {"holder": p, "box": 0, "warm": 0})

    def call_split(self, n, k, mass):
        piece = self.pieces[n]
        refuse_if(self.shut(piece["box"]), -4)
        refuse_if(not piece["now"] > mass, -5)
        refuse_if(self.call_label(k) in self.pieces, -6)
        refuse_if(len(self.pieces) == 40, -7)
        piece["now"] -= mass
        return self.new_piece(self.call_label(k), mass, n, piece)

    def call_use(self, n, mass):
        piece = self.pieces[n]
        refuse_if(self.shut(piece["box"]), -4)
        refuse_if(piece["now"] < mass, -5)
        piece.update(now=piece["now"] - mass, used=piece["used"] + mass)
        if piece["now"] == 0:
            piece.update(gone=1, box=0)
        return piece["now"]

    def call_lose(self, n):
        mass = self.pieces[n]["now"]
        self.pieces[n].update(now=0, lost=mass, gone=1, box=0)
        return mass

    def call_box(self, p):
        refuse_if(len(self.boxes) == 10, -5)
        self.boxes[len(self.boxes) + 1] = {"holder": p, "in": 0, "seal": 0, "frost": 0}
        return len(self.boxes)

    def call_put(self, n, b):
        refuse_if(self.pieces[n]["box"], -4)
        refuse_if(self.shut(b), -5)
        refuse_if(self.pieces[n]["holder"] != self.boxes[b]["holder"], -6)
        self.pieces[n]["box"] = b
        return 0

    def call_take(self, n):
        refuse_if(not self.pieces[n]["box"], -4)
        refuse_if(self.shut(self.pieces[n]["box"]), -5)
        self.pieces[n]["box"] = 0
        return self.pieces[n]["holder"]

    def call_nest(self, b, o):
        refuse_if(self.boxes[b]["in"], -4)
        refuse_if(b in self.around(o), -5)
        refuse_if(self.shut(o), -6)
        refuse_if(self.boxes[b]["holder"] != self.boxes[o]["holder"], -7)
        self.boxes[b]["in"] = o
        return 0

    def call_unnest(self, b):
        refuse_if(not self.boxes[b]["in"], -4)
        refuse_if(self.shut(self.boxes[b]["in"]), -5)
        self.boxes[b]["in"] = 0
        return self.boxes[b]["holder"]

    def call_seal(self, b, mark):
        refuse_if(self.shut(b), -4)
        self.boxes[b]["seal"] = mark
        return 0

    def call_open(self, b, mark):
        refuse_if(not self.boxes[b]["seal"], -4)
        refuse_if(self.shut(self.boxes[b]["in"]), -5)
        refuse_if(self.boxes[b]["seal"] != mark, -6)
        self.boxes[b]["seal"] = 0
        return 0

    def hand_over(self, labels, p, q):
        refuse_if(self.handings == 200, -6)
        self.handings += 1
        for label in labels:
            self.pieces[label]["holder"] = q
            self.pieces[label]["chain"] += [self.minute, p, q]

    def call_hand(self, n, p, q):
        refuse_if(self.pieces[n]["box"], -4)
        refuse_if(self.pieces[n]["holder"] != p or p == q, -5)
        self.hand_over([n], p, q)
        return 0

    def call_handbox(self, b, p, q):
        refuse_if(self.boxes[b]["in"], -4)
        refuse_if(self.boxes[b]["holder"] != p or p == q, -5)
        self.hand_over(self.within(b), p, q)
        for one in self.boxes:
            if b in self.around(one):
                self.boxes[one]["holder"] = q
        return len(self.within(b))

    def call_frost(self, b, kept):
        self.boxes[b]["frost"] = kept
        return 0

    def call_pass(self, minutes):
        refuse_if(self.minute + minutes > 1000000000, -4)
        self.minute += minutes
        for piece in self.pieces.values():
            piece["warm"] += 0 if piece["gone"] or self.cold(piece["box"]) else minutes
        return self.minute

    def call_piece(self, n):
        names = ("source", "made", "now", "used", "lost", "gone", "holder", "box", "warm")
        return [self.pieces[n][name] for name in names]

    def call_told(self, b):
        box = self.boxes[b]
        return [box["holder"], box["in"], box["seal"], int(self.cold(b)), int(not self.shut(b))]

    def call_manifest(self, b):
        return with_count(self.within(b))

    def is_of_family(self, label, n):
        while label not in (n, -1):
            label = self.pieces[label]["source"]
        return label == n

    def call_sums(self, n):
        family = [piece for label, piece in self.pieces.items() if self.is_of_family(label, n)]
        sums = [sum(piece[name] for piece in family) for name in ("now", "used", "lost")]
        return [self.pieces[n]["made"], len(family), *sums]

    def call_read(self, text):
        patterns = plain_patterns(text)
        refuse_if(patterns is None or len(patterns) > 1, -4)
        return with_count(sorted(label for label in self.pieces if plain_fits(label, patterns[0])))

    def matched(self, b, text, search):
        patterns = plain_patterns(text)
        refuse_if(patterns is None, -4)
        refuse_if(len(patterns) > 8 or len(self.within(b)) > 10, -5)
        return search(patterns, self.within(b))

    def call_best(self, b, text):
        return self.matched(b, text, plain_best)

    def call_sure(self, b, text):
        return self.matched(b, text, plain_sure)

    def call_cover(self, b, text):
        return self.matched(b, text, plain_cover)

    def call_chain(self, n):
        chain = self.pieces[n]["chain"]
        return [len(chain) // 3, *chain]

    def call_warm(self, least):
        return with_count(sorted(label for label, piece in self.pieces.items()
                                 if not piece["gone"] and piece["warm"] >= least))


def drawn_pattern(source, labels):
    label = source.choice(labels) if labels and source.random() < 0.9 else source.randrange(1000000)
    chance = source.choice((0, 0.2, 0.4, 0.6))
    return "".join("?" if source.random() < chance else digit for digit in f"{label:06d}")


def drawn_text(source, labels, most):
    text = " ".join(drawn_pattern(source, labels) for turn in range(source.randint(1, most)))
    if source.random() < 0.06:
        text = text.replace(source.choice("0? "), source.choice(("", " ", "a", "  ")), 1)
    return list(text.encode())


def drawn_argument(source, kind, labels, most):
    if source.randrange(50) == 0:
        return source.choice(wrong_values(kind))
    if kind == "n" and labels:
        return source.choice(labels)
    if kind == "text":
        return drawn_text(source, labels, most)
    return source.randint(*SPANS[kind])


def drawn_call(source, labels):
    name = source.choices(list(NUMBERS), [OFTEN.get(name, 1) for name in NUMBERS])[0]
    most = 1 if name == "read" else 5
    return name, [drawn_argument(source, kind, labels, most) for kind, good in GOOD_CALLS[name]]


class DrawnLines(LineTest):
    """ask() looks at each refusal, and tearDown() at the whole line, as for every other test."""

    def drawn_line(self, seed):
        source = random.Random(seed)
        account = PlainAccount()
        for turn in range(source.choice((1, 50, 200, 200))):
            name, arguments = drawn_call(source, list(self.store.pieces))
            answer = self.ask(name, *arguments)
            self.assertEqual(answer, account.answer(name, arguments), (seed, turn, name, arguments))
            yield name, arguments, answer

    def each_line(self, seeds):
        for seed in seeds:
            self.setUp()
            yield from self.drawn_line(seed)
            self.tearDown()

    def test_each_answer_is_that_of_the_plain_account(self):
        told = dict.fromkeys(NUMBERS, 0)
        refusals = {}
        for name, arguments, answer in self.each_line(range(1000, 1350)):
            if is_refusal(name, answer):
                refusals.setdefault(name, set()).add(answer[0])
            else:
                told[name] += 1
        self.assertGreater(min(told.values()), 100, told)
        for name, own in (("split", {-4, -5, -6}), ("use", {-4, -5}), ("put", {-4, -5, -6}), ("take", {-4, -5}),
                          ("nest", {-4, -5, -6, -7}), ("unnest", {-4, -5}), ("seal", {-4}), ("open", {-4, -5, -6}),
                          ("hand", {-4, -5}), ("handbox", {-4, -5}), ("read", {-4}), ("best", {-4}), ("sure", {-4}),
                          ("cover", {-4}), ("sample", {-4})):
            self.assertLessEqual(own | {-1}, refusals[name], name)

    def look_at_masses(self):
        for label, piece in self.store.pieces.items():
            made, count, now, used, lost = told_apart(answers(self.calls + as_call("sums", label)))[-1]
            self.assertEqual(made, now + used + lost)
            self.assertEqual(piece.gone, piece.mass == 0)
            self.assertTrue(piece.box == 0 or not piece.gone)

    def look_at_chains(self):
        for label in self.store.pieces:
            chain = told_apart(answers(self.calls + as_call("chain", label)))[-1]
            hands = [(chain[place + 1], chain[place + 2]) for place in range(1, len(chain), 3)]
            for before, after in zip(hands, hands[1:]):
                self.assertEqual(before[1], after[0])
            if hands:
                self.assertEqual(hands[-1][1], self.piece(label)[6])
            self.assertEqual(chain[1::3], sorted(chain[1::3]))

    def test_masses_add_up_and_hands_make_a_chain(self):
        for seed in range(200, 230):
            self.setUp()
            for call in self.drawn_line(seed):
                pass
            self.look_at_masses()
            self.look_at_chains()
            self.tearDown()


class OneLineAndAnother(unittest.TestCase):
    def some_lines(self):
        lines = []
        for seed in range(300, 320):
            source = random.Random(seed)
            calls = []
            labels = [98, 195, 292, 389, 486, 583]
            for turn in range(100):
                name, arguments = drawn_call(source, labels)
                calls += as_call(name, *arguments)
            lines.append(calls)
        return lines

    def test_one_line_has_nothing_of_another(self):
        lines = self.some_lines()
        alone = [answers(list(line)) for line in lines]
        self.assertEqual([answers(line) for line in reversed(lines)], alone[::-1])
        for line, given_back in zip(lines, alone):
            for other in lines[:5]:
                answers(other)
                self.assertEqual(answers(line), given_back)

    def test_what_is_handed_in_stays_as_it_is(self):
        for line in self.some_lines():
            handed_in = list(line)
            answers(handed_in)
            self.assertEqual(handed_in, line)

    def test_what_is_given_back_is_a_new_list_of_whole_numbers(self):
        for line in self.some_lines():
            given_back = answers(line)
            self.assertIs(type(given_back), list)
            self.assertEqual({type(number) for number in given_back}, {int})
            given_back[:] = [7]
            self.assertNotEqual(answers(line), [7])

    def test_longest_texts_and_fullest_boxes(self):
        text = " ".join(["??????"] * 8)
        calls = as_call("box", 0)
        labels = []
        for k in range(10):
            labels.append(100 * k + 98 - 100 * k % 97)
            calls += as_call("sample", k, 10, 0) + as_call("put", labels[-1], 1)
        for turn in range(179):
            calls += as_call(("best", "sure", "cover")[turn % 3], 1, text)
        told = told_apart(answers(calls))
        self.assertEqual(len(told), 200)
        best, sure, cover = [8, 8] + labels[:8], [8] + [0] * 8 + [0, 0, 0], [8] + list(range(8)) + [0]
        self.assertEqual(told[21:], ([best, sure, cover] * 60)[:179])


if __name__ == "__main__":
    unittest.main()
