"""Packing: a row without the places whose keys were taken out."""


def packed(row, beside):
    """A row and a list beside it, both without the places at which the row has None."""
    keys = [key for key in row if key is not None]
    others = [thing for key, thing in zip(row, beside) if key is not None]
    return (keys, others)
