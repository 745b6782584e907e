"""How a label is made of a sample's number."""


# The two digits behind the number make every label 1 more than a multiple of 97.
def label_of(k):
    return 100 * k + 98 - 100 * k % 97
