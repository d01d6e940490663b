"""A console: a bench that is told what to do by rows of text, and answers by texts."""

from foldlines.answers import DONE, answer_of
from foldlines.benches import Bench
from foldlines.errors import InvalidSay
from foldlines.programs import Program
from foldlines.sayings import saying_of


class Console:
    """A bench and what is said to it."""

    def __init__(self):
        self._bench = Bench(Program.of(("back",)))

    @property
    def bench(self):
        """The bench, at first that of a program whose main has the one line back."""
        return self._bench

    def say(self, row):
        """The answer to a row."""
        saying = saying_of(row)
        if saying is None:
            raise InvalidSay(row)
        word, parts = saying
        if word == "load":
            self._bench = Bench.of_text(parts[0])
            return DONE
        if word == "try":
            return self._bench.explore(lambda bench: answer_of(bench, parts))
        return answer_of(self._bench, saying)
