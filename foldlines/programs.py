"""Programs: functions of lines, checked when they are made and never changed."""

from foldlines.checks import check_functions
from foldlines.errors import InvalidLines, InvalidName, TooMany, UnknownName
from foldlines.limits import MAX_FUNCTIONS
from foldlines.lines import line_size, lines_size
from foldlines.texts import functions_of, text_of
from foldlines.values import is_filled_list, is_word


class Program:
    """A program of tidy functions that keep the link by themselves."""

    REGISTERS = 6
    END = "end"
    IS_BARE = False

    def __init__(self, functions):
        check_functions(functions, self.IS_BARE)
        self._keep(functions)

    def _keep(self, functions):
        self._functions = {name: tuple(functions[name]) for name in sorted(functions)}

    @classmethod
    def of(cls, *lines):
        """The program whose only function, main, has these lines."""
        return cls({"main": lines})

    @classmethod
    def read(cls, text):
        """The program with this text."""
        return cls(functions_of(text))

    @classmethod
    def made(cls, functions):
        """The program of this class with these functions."""
        return cls(functions)

    @classmethod
    def of_any_size(cls, functions):
        """The program with these functions, which a pass made from right ones: no limit holds for them."""
        program = cls({"main": [("stop",)]})
        program._keep(functions)
        return program

    @staticmethod
    def size_of_line(line):
        """The size of a line."""
        return line_size(line)

    @property
    def functions(self):
        """A dict from the names to the lines."""
        return dict(self._functions)

    @property
    def names(self):
        """The names of the functions."""
        return tuple(self._functions)

    @property
    def size(self):
        """The sum of the sizes of all lines."""
        return sum([lines_size(self._functions[name]) for name in self._functions])

    @property
    def text(self):
        """The text that read takes."""
        return text_of(self._functions)

    def size_of(self, name):
        """The size of the function of this name."""
        return lines_size(self[name])

    def places(self):
        """Each place with its line."""
        for name, lines in self._functions.items():
            for at, line in enumerate(lines):
                yield ((name, at), line)

    def with_function(self, name, lines):
        """The program with these lines as the function of this name."""
        if not is_word(name):
            raise InvalidName(name)
        if not is_filled_list(lines):
            raise InvalidLines(lines)
        return self._remade({**self._functions, name: lines})

    def without(self, *names):
        """The program without the functions of these names."""
        functions = dict(self._functions)
        for name in names:
            if not isinstance(name, str) or name == "main" or name not in functions:
                raise UnknownName(name)
            del functions[name]
        return self._remade(functions)

    def _remade(self, functions):
        if len(functions) > MAX_FUNCTIONS:
            raise TooMany(MAX_FUNCTIONS)
        return self.made(functions)

    def __getitem__(self, name):
        if name not in self:
            raise UnknownName(name)
        return self._functions[name]

    def __contains__(self, value):
        return isinstance(value, str) and value in self._functions

    def __iter__(self):
        raise TypeError("a program is gone through by its names or its places")

    def __len__(self):
        return len(self._functions)

    def __eq__(self, other):
        if not isinstance(other, Program):
            return False
        return self.__class__.__name__ == other.__class__.__name__ and self._functions == other._functions


class BareProgram(Program):
    """A program without lines that lay anything on the stack: its runs come back by themselves."""

    IS_BARE = True

    def __init__(self, functions):
        super().__init__(functions)
