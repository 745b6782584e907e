"""Found and expected labels: best matchings, and what all of them agree on.

The readings stand as a list, for each found label in its order, of the expected labels that fit it,
rising. Both are few, at most 8 and 10.
"""

NO_LABEL = 0


# Whether the found label gets an expected one, if need be by moving others on to another one of theirs.
def find_place(readings, matched, seen, found):
    for label in readings[found]:
        if label not in seen:
            seen[label] = True
            if label not in matched or find_place(readings, matched, seen, matched[label]):
                matched[label] = found
                return True
    return False


# One of the best matchings: by expected label, the number of the found one.
def best_matching(readings):
    matched = {}
    for found in range(len(readings)):
        find_place(readings, matched, {}, found)
    return matched


def most_readings(readings):
    return len(best_matching(readings))


def all_but(labels, label):
    return [other for other in labels if other != label]


def without_label(readings, label):
    return [all_but(labels, label) for labels in readings]


def without_reading(readings, found, label):
    rest = list(readings)
    rest[found] = all_but(readings[found], label)
    return rest


# For the first of the found labels, the least expected one with which so many readings are still made.
def first_label(readings, most):
    for label in readings[0]:
        if 1 + most_readings(without_label(readings[1:], label)) == most:
            return label
    return NO_LABEL


def first_best_matching(readings):
    chosen = []
    most = most_readings(readings)
    rest = readings
    while len(rest) > 0:
        label = first_label(rest, most)
        if label != NO_LABEL:
            most -= 1
        rest = without_label(rest[1:], label)
        chosen.append(label)
    return chosen


# A reading that every best matching has is in the one that's looked at, and fewer are made without it.
def surely_is(readings):
    matched = best_matching(readings)
    sure = [NO_LABEL for labels in readings]
    for label, found in matched.items():
        if most_readings(without_reading(readings, found, label)) < len(matched):
            sure[found] = label
    return sure


def surely_there(readings, expected):
    most = most_readings(readings)
    return [label for label in expected if most_readings(without_label(readings, label)) < most]


def is_read(readings, label):
    return any([label in labels for labels in readings])


# A label of any reading is in some best matching: where it's left unmatched, the other label of that
# reading is matched, and may as well be matched with it. So only labels without a reading are in none.
def surely_missing(readings, expected):
    return [label for label in expected if not is_read(readings, label)]


def surely_foreign(readings):
    return [found for found, labels in enumerate(readings) if len(labels) == 0]


# The found labels that are come to. Every expected one on the way is matched: else the way to it would
# make room for one more reading.
def come_to(readings):
    matched = best_matching(readings)
    placed = list(matched.values())
    reached = [found for found in range(len(readings)) if found not in placed]
    seen = {}
    place = 0
    while place < len(reached):
        labels = readings[reached[place]]
        for label in labels:
            if label not in seen:
                seen[label] = True
                reached.append(matched[label])
        place += 1
    return reached


def found_of_cover(readings):
    reached = come_to(readings)
    return [found for found in range(len(readings)) if found not in reached]


def expected_of_cover(readings, expected):
    reached = [readings[found] for found in come_to(readings)]
    return [label for label in expected if is_read(reached, label)]
