"""The order in which lists are told."""


def in_text_order(values):
    """The unlike ones among some values, in the order of their texts."""
    return sorted({value: True for value in values}, key=str)
