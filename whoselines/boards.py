"""What lies on a desk: a board is a tuple of the dict of the machines under names, the band or None, and the log."""

from whoselines.errors import NoBand, NoName


def empty_board():
    """Return the board with nothing on it."""
    return ({}, None, [])


def machine_on(board, name):
    """Return the machine that stands under a name."""
    machines = board[0]
    if name not in machines:
        raise NoName("no machine stands under this name")
    return machines[name]


def band_on(board):
    """Return the band."""
    if board[1] is None:
        raise NoBand("there is no band yet")
    return board[1]


def log_on(board):
    """Return the list of the lines."""
    return board[2]


def check_names_on(board, names):
    """Raise NoName unless all these are names of the band."""
    known = band_on(board).names()
    if not all([name in known for name in names]):
        raise NoName("not a name of the band")


def with_machine(board, name, machine):
    """Return the board on which a machine stands under a name, in the place of an elder one."""
    machines, band, log = board
    more = machines.copy()
    more[name] = machine
    return (more, band, log)


def with_band(board, band):
    """Return the board with a band and an empty log."""
    return (board[0], band, [])


def with_line(board, entry):
    """Return the board on which the log has one line more."""
    machines, band, log = board
    return (machines, band, log + [entry])
