"""What the tests of blobs share: configurations, and what lies where by the words of 7.4."""

from cairn.code import Code
from cairn.config import Config

SMALL = Config(3, 4, 2, 1, 64)
# Data blocks and spares with different numbers of shelves.
SHAPES = [(1, 1, 0), (3, 1, 1), (5, 1, 2), (2, 2, 0), (4, 2, 1), (7, 2, 2), (5, 3, 1), (8, 4, 2), (9, 5, 2), (7, 5, 0)]
CONFIGS = [Config(3, shelves, data, spare, 64) for shelves, data, spare in SHAPES]


def shelf_of(config, ticket, index):
    """The shelf of a fragment."""
    return "s" + str((ticket + index) % config.shelves)


def word_of(config, octets):
    """All fragments of a blob, as tuples."""
    code = Code(config.data, config.shelves)
    return [tuple(fragment) for fragment in code.word(code.chunks(list(octets)))]


def pieces_of(config, ticket, octets):
    """The letters with which the shelves send the fragments, as the arguments of `piece`."""
    word = word_of(config, octets)
    return [(shelf_of(config, ticket, index), ticket, index, word[index]) for index in range(config.shelves)]


def octets_of_size(size, seed=0):
    return tuple((7 * place + 31 * size + seed + 1) % 256 for place in range(size))
