"""Blobs: the octets of a write, and their fragments on the shelves."""

from cairn.code import Code


def holder(config, ticket, index):
    """The name of the shelf on which a fragment of the ticket lies."""
    number = (ticket + index) % config.shelves
    return f"s{number}"


def index_on(config, ticket, shelf):
    """The index of the fragment of the ticket that lies on a shelf."""
    return (config.shelf_names().index(shelf) - ticket) % config.shelves


def fragments(config, octets):
    """All fragments of the octets of a blob."""
    code = code_of(config)
    return code.word(code.chunks(octets))


def whole_blob(config, pieces, size):
    """The octets of a blob, from a dict from indexes to fragments."""
    code = code_of(config)
    return code.merge(code.rebuild(pieces), size)


def code_of(config):
    """The code that makes the fragments."""
    return Code(config.data, config.shelves)


def fragment_length(config, size):
    """How many octets each fragment of a blob has: as many as a block, which has one at least."""
    return max((size + config.data - 1) // config.data, 1)


def lies_on(config, ticket, index, shelf):
    """Whether there is a fragment with this index, and the shelf is its holder."""
    return index >= 0 and index < config.shelves and holder(config, ticket, index) == shelf
