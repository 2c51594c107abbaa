"""Objects as texts [56]: a row for each part of an object; a kind, which may have any signs, in lines of its own.

    object NAME PACE
    global NAME WORDS SIGNS FIRST ..    and behind it its kind, of so many signs
    function NAME WORDS PLACE SIGNS     likewise
    want NAME WORDS SIGNS               likewise
    word WORD MODULE LINE COLUMN        without the last three where there is no place
    patch PLACE KIND BYTES NAME         without a name for the limit
    trap PLACE KIND
    frame NAME BYTES
    call NAME NAME DEEPER TAIL          TAIL being 1 or 0
    end
"""

from trueimage.errors import BadText, BadThing
from trueimage.objectforms import is_object

SIGNS_OF_NAMES = "ABCDEFGHIJKLMNOPQRSTUVWXYZabcdefghijklmnopqrstuvwxyz0123456789_."
FIGURES = "0123456789"
MOST_FIGURES = 10


def object_text(thing):
    """The text of an object."""
    for name in _names_in(thing):
        if not _is_right_name(name):
            raise BadThing(name)
    return _written(thing)


def _written(thing):
    name, words, things, names, wants, patches, places, traps, frames, calls, pace = thing
    rows = [["object", name, pace]]
    for told, kind, many, firsts in things:
        rows.append(["global", told, many, len(kind)] + list(firsts))
        rows.append([kind])
    for told, kind, many, start in names:
        rows.append(["function", told, many, start, len(kind)])
        rows.append([kind])
    for told, kind, many in wants:
        rows.append(["want", told, many, len(kind)])
        rows.append([kind])
    for word, place in zip(words, places):
        rows.append(["word", word] + list(place if place is not None else ()))
    for at, kind, told, behind in patches:
        rows.append(["patch", at, kind, behind] + ([told] if told != "" else []))
    rows.extend([["trap"] + list(trap) for trap in traps])
    rows.extend([["frame"] + list(frame) for frame in frames])
    rows.extend([["call", one, other, deeper, 1 if is_tail else 0] for one, other, deeper, is_tail in calls])
    rows.append(["end"])
    return "".join([" ".join([str(part) for part in row]) + "\n" for row in rows])


def _names_in(thing):
    """All names in an object, those of places, too."""
    name, _, things, names, wants, patches, places, _, frames, calls, _ = thing
    found = [name] + [told[0] for told in things + names + wants + frames]
    found.extend([told for _, _, told, _ in patches if told != ""])
    found.extend([place[0] for place in places if place is not None])
    for one, other, _, _ in calls:
        found.extend([one, other])
    return found


def _is_right_name(name):
    return name != "" and all([sign in SIGNS_OF_NAMES for sign in name])


def object_by(text):
    """The object with this text, or BadText."""
    if not isinstance(text, str):
        raise BadText(0, 0)
    reader = ObjectReader(text)
    thing = reader.read()
    if not is_object(thing) or not all([_is_right_name(name) for name in _names_in(thing)]):
        reader.fail()
    # What was read too freely has another text.
    written = _written(thing)
    if written != text:
        reader.at = _first_unlike(written, text)
        reader.fail()
    return thing


def _first_unlike(one, other):
    """The place of the first sign that is another one in two texts."""
    at = 0
    while one[at:at + 1] == other[at:at + 1]:
        at += 1
    return at


class ObjectReader:
    """Reads the text of an object, row by row."""

    def __init__(self, text):
        self.text = text
        self.at = 0
        self.parts = {
            "global": [], "function": [], "want": [], "word": [], "patch": [], "trap": [], "frame": [], "call": [],
        }
        self.places = []

    def fail(self):
        """The text is wrong where the reader stands."""
        ahead = self.text[:self.at]
        raise BadText(ahead.count("\n") + 1, self.at - ahead.rfind("\n"))

    def read(self):
        """What the text tells: an object, if all is right."""
        first = self._row()
        if first[0] != "object" or len(first) != 3:
            self.fail()
        row = self._row()
        while row != ["end"]:
            if row[0] not in ROWS:
                self.fail()
            read = ROWS[row[0]]
            self.parts[row[0]].append(read(self, row))
            row = self._row()
        if self.at < len(self.text):
            self.fail()
        parts = {kind: tuple(self.parts[kind]) for kind in self.parts}
        return (
            first[1], parts["word"], parts["global"], parts["function"], parts["want"], parts["patch"],
            tuple(self.places), parts["trap"], parts["frame"], parts["call"], self.number_of(first[2]),
        )

    def _row(self):
        """The parts of the next row."""
        end = self.text.find("\n", self.at)
        if end < 0:
            self.at = len(self.text)
            self.fail()
        row = self.text[self.at:end].split(" ")
        self.at = end + 1
        return row

    def next_kind(self, many):
        """A text of so many signs, with a line feed behind it."""
        if many < 0:
            self.fail()
        told = self.text[self.at:self.at + many]
        self.at += many
        if self.text[self.at:self.at + 1] != "\n":
            self.fail()
        self.at += 1
        return told

    def number_of(self, text):
        """The number that a part of a row tells."""
        figures = text.removeprefix("-")
        if figures == "" or len(figures) > MOST_FIGURES or not all([figure in FIGURES for figure in figures]):
            self.fail()
        return int(text)

    def part(self, row, at):
        """A part of a row, which must be there."""
        if at >= len(row):
            self.fail()
        return row[at]

    def number_at(self, row, at):
        """The number at a place of a row."""
        return self.number_of(self.part(row, at))


def _global(reader, row):
    name, many, signs = reader.part(row, 1), reader.number_at(row, 2), reader.number_at(row, 3)
    firsts = tuple([reader.number_of(part) for part in row[4:]])
    return (name, reader.next_kind(signs), many, firsts)


def _function(reader, row):
    name, many, start = reader.part(row, 1), reader.number_at(row, 2), reader.number_at(row, 3)
    return (name, reader.next_kind(reader.number_at(row, 4)), many, start)


def _want(reader, row):
    name, many = reader.part(row, 1), reader.number_at(row, 2)
    return (name, reader.next_kind(reader.number_at(row, 3)), many)


def _word(reader, row):
    place = None
    if len(row) > 2:
        place = (row[2], reader.number_at(row, 3), reader.number_at(row, 4))
    reader.places.append(place)
    return reader.number_at(row, 1)


def _patch(reader, row):
    at, kind, behind = reader.number_at(row, 1), reader.part(row, 2), reader.number_at(row, 3)
    return (at, kind, row[4] if len(row) > 4 else "", behind)


def _trap(reader, row):
    return (reader.number_at(row, 1), reader.part(row, 2))


def _frame(reader, row):
    return (reader.part(row, 1), reader.number_at(row, 2))


def _call(reader, row):
    deeper = reader.number_at(row, 3)
    return (row[1], row[2], deeper, reader.part(row, 4) == "1")


ROWS = {
    "global": _global, "function": _function, "want": _want, "word": _word, "patch": _patch, "trap": _trap,
    "frame": _frame, "call": _call,
}
