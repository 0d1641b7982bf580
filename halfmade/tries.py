"""Rows that fail, and rows that catch what fails."""

from halfmade.draws import Draws
from halfmade.errors import Failed, Fault


def catches(words, word):
    """Whether a try with these words catches a fault of this word."""
    return word in words or "ALL" in words


class Tries(Draws):
    """Draws whose bodies fail by words of their own, and catch faults."""

    def do(self, row):
        """Does fail and try rows, and those of the classes above."""
        if row[0] == "fail":
            raise Fault((row[1],))
        if row[0] == "try":
            self.do_try(row[1], row[2], row[3])
        else:
            super().do(row)

    def do_try(self, first, words, last):
        """Does the first rows and, where a fault in them is caught, the last rows."""
        caught = None
        try:
            for row in first:
                self.do_row(row)
        except Failed as e:
            caught = e.fault[0]
            if not catches(words, caught):
                raise
        # Not in the handler: a fault in the last rows is none of this try's.
        if caught is not None:
            self.write_caught(caught)
            for row in last:
                self.do_row(row)

    def write_caught(self, word):
        """Writes into the log that a fault was caught at the row under way."""
        module, at = self.chain[-1]
        self.entries.append(("caught", module.number, at, word))
