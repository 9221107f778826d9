"""A desk that reads orders."""

from whoselines.answers import answered
from whoselines.boards import empty_board
from whoselines.changes import changed, is_change
from whoselines.errors import NothingToUndo
from whoselines.orders import read_order


class Desk:
    """Machines under names, a band and a log, which orders change and ask about."""

    def __init__(self):
        # The boards ahead of the changes that are not taken back, and the board of now. None of them is modified.
        self._boards = [empty_board()]

    def order(self, text):
        """Do what an order says; return the answer."""
        first, words = read_order(text)
        if first == "undo":
            return self._undo()
        if not is_change(first):
            return answered(self._boards[-1], first, words)
        board, answer = changed(self._boards[-1], first, words)
        self._boards.append(board)
        return answer

    def _undo(self):
        if len(self._boards) == 1:
            raise NothingToUndo("no order is left to take back")
        self._boards.pop()
        return "undone"
