"""The forms of operations, and of the commands of the log."""

LONGEST_NAME = 8
LONGEST_PATH = 4
MOST_CLIENTS = 4
MOST_OCTETS = 64
SIGNS = "abcdefghijklmnopqrstuvwxyz0123456789"
NOOP = ("noop",)


def is_command(value):
    """Whether the value is a command."""
    if not isinstance(value, tuple):
        return False
    match value:
        case ("noop",):
            return True
        case ("intend", client, number):
            return is_call(client, number)
        case ("commit", ticket, client, number, path, at, size):
            return is_from(ticket, 1) and is_call(client, number) and is_place(path, at, size)
        case ("do", client, number, op):
            return is_call(client, number) and is_operation(op) and not is_blob_write(op)
        case ("forget", ticket):
            return is_from(ticket, 1)
    return False


def as_command(value):
    """What counts as the command of a slot with this value."""
    return value if is_command(value) else NOOP


def is_operation(value):
    """Whether the value is an operation."""
    if not isinstance(value, tuple):
        return False
    match value:
        case ("make" | "create" | "remove" | "list" | "stat", path):
            return is_path(path)
        case ("rename", old, new):
            return is_path(old) and is_path(new)
        case ("read", path, at, count):
            return is_path(path) and is_from(at, 0) and is_from(count, 0)
        case ("write", path, at, octets):
            return is_path(path) and is_from(at, 0) and are_octets(octets)
        case ("cut", path, size):
            return is_path(path) and is_from(size, 0)
    return False


def is_blob_write(op):
    """Whether the operation is a write of at least one octet."""
    return op[0] == "write" and len(op[3]) > 0


def is_call(client, number):
    """Whether these are a client and the number of a call."""
    return is_client(client) and is_from(number, 1)


def is_client(value):
    """Whether the value is a client."""
    return is_from(value, 1) and value <= MOST_CLIENTS


def is_place(path, at, size):
    """Whether these say where the octets of a blob go."""
    return is_path(path) and is_from(at, 0) and is_from(size, 1) and size <= MOST_OCTETS


def is_from(value, least):
    """Whether the value is an integer from `least` on."""
    return isinstance(value, int) and not isinstance(value, bool) and value >= least


def is_path(value):
    """Whether the value is a path."""
    return isinstance(value, tuple) and len(value) <= LONGEST_PATH and all([is_name(item) for item in value])


def is_name(value):
    """Whether the value is a name."""
    if not isinstance(value, str) or len(value) < 1 or len(value) > LONGEST_NAME:
        return False
    return all([sign in SIGNS for sign in value])


def are_octets(value):
    """Whether the value is a tuple of octets that one write may have."""
    if not isinstance(value, tuple) or len(value) > MOST_OCTETS:
        return False
    return all([is_octet(item) for item in value])


def is_octet(value):
    """Whether the value is an octet."""
    return is_from(value, 0) and value <= 255
