"""The configuration of a store."""

from cairn.errors import BadConfig

KEEPERS = (1, 3, 5, 7)
MOST_SHELVES = 24
MOST_DATA = 16
LEAST_SECTORS = 4
MOST_SECTORS = 4096


class Config:
    """How many keepers and shelves there are, how blobs are cut, and how large the disks are."""

    def __init__(self, keepers, shelves, data, spare, sectors):
        if keepers not in KEEPERS:
            raise BadConfig(f"there are 1, 3, 5 or 7 keepers, not {keepers}")
        if shelves < 1 or shelves > MOST_SHELVES:
            raise BadConfig(f"there are 1 to {MOST_SHELVES} shelves, not {shelves}")
        if data < 1 or data > MOST_DATA:
            raise BadConfig(f"there are 1 to {MOST_DATA} data blocks, not {data}")
        if spare < 0 or shelves < data + 2 * spare:
            raise BadConfig(f"{shelves} shelves hold no {data} data blocks with {spare} to spare")
        if sectors < LEAST_SECTORS or sectors > MOST_SECTORS:
            raise BadConfig(f"a disk has {LEAST_SECTORS} to {MOST_SECTORS} sectors, not {sectors}")
        self.keepers = keepers
        self.shelves = shelves
        self.data = data
        self.spare = spare
        self.sectors = sectors

    def keeper_names(self):
        """The names of the keepers."""
        return tuple([f"k{number}" for number in range(self.keepers)])

    def shelf_names(self):
        """The names of the shelves."""
        return tuple([f"s{number}" for number in range(self.shelves)])
