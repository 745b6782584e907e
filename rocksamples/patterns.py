"""Half legible labels: patterns of six signs, and which labels fit them. Signs are numbers of bytes."""

SIGNS_OF_A_LABEL = 6
ZERO = 48
NINE = 57
UNREAD = 63
BLANK = 32


def is_digit(sign):
    return ZERO <= sign <= NINE


def is_pattern(signs):
    if len(signs) != SIGNS_OF_A_LABEL:
        return False
    return all([sign == UNREAD or is_digit(sign) for sign in signs])


# A blank too many leaves an empty part, which is no pattern.
def parts_of(text):
    parts = [[]]
    for sign in text:
        if sign == BLANK:
            parts.append([])
        else:
            parts[-1].append(sign)
    return parts


# From the last digit on: zeros in front come out by themselves.
def fits(label, pattern):
    for sign in reversed(pattern):
        if is_digit(sign) and sign != ZERO + label % 10:
            return False
        label = label // 10
    return True
