"""Copies of things of any kind, so that nothing that is handed in is kept as it is."""


def copy_of(thing):
    """The same thing, with lists, tuples and dicts of its own, all the way down."""
    if isinstance(thing, list):
        return [copy_of(part) for part in thing]
    if isinstance(thing, tuple):
        return tuple([copy_of(part) for part in thing])
    if isinstance(thing, dict):
        return {key: copy_of(thing[key]) for key in thing}
    return thing
