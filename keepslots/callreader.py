"""Reading the calls of a request, which lie in one list one behind another."""


class CallReader:
    """Walks a list of calls from its start; the list itself is never changed."""

    def __init__(self, calls):
        self.calls = calls
        self.position = 0

    def has_more(self):
        return self.position < len(self.calls)

    def take_number(self):
        number = self.calls[self.position]
        self.position += 1
        return number

    def take_row(self):
        """Take a row, which has the number of its elements before it."""
        length = self.take_number()
        start = self.position
        self.position += length
        return self.calls[start:self.position]
