"""The hall: a machine that is written as a text, told rows, and answering by the rooms of its parts."""

from cascade.about import about
from cascade.errors import NoName, NoRow
from cascade.rows import Row
from cascade.texts import read


def is_told(words):
    if words[0] == "go":
        return len(words) > 1
    if words[0] == "at":
        return len(words) == 2
    return words[0] in ("row", "parts", "about") and len(words) == 1


# What is no text has no words, so it is refused as a row is that begins with a word without signs.
def words_of(row):
    if not isinstance(row, str):
        return [""]
    return row.split(" ")


def joined(words):
    if not words:
        return "none"
    return " ".join(words)


class Hall:
    def __init__(self, text):
        written = read(text)
        self.names = written[0]
        self.machine = written[1]
        self.row = Row(self.machine)
        self.here = self.row.row_of(0)

    def say(self, row):
        words = words_of(row)
        if not is_told(words):
            raise NoRow("a row is go with names, at with a room, row, parts or about")
        if words[0] == "go":
            return self.go(words[1:])
        if words[0] == "at":
            return self.stand(words[1])
        if words[0] == "row":
            return joined([str(room) for room in self.here])
        if words[0] == "parts":
            return joined([f"{word}/{many}" for word, level, many in self.row.parts()])
        return self.shown_about()

    def letter_of(self, name):
        if name not in self.names:
            raise NoName("no letter has this name")
        return self.names.index(name)

    # All names are looked up ahead of the move, so that a refusal changes nothing.
    def go(self, names):
        word = [self.letter_of(name) for name in names]
        self.here = self.row.gone(self.here, word)
        return str(self.row.told(self.here))

    def stand(self, figure):
        figures = [str(room) for room in range(len(self.machine[0]))]
        if figure not in figures:
            raise NoName("the machine has no such room")
        self.here = self.row.row_of(figures.index(figure))
        return "ok"

    def shown_about(self):
        found = about(self.machine)
        if found is None:
            return "none"
        word = " ".join([self.names[letter] for letter in found[0]])
        rooms = "".join([f" {room}" for room in found[1]])
        return f"{word}:{rooms}"
