"""Images as bytes [59].

Eight bytes that begin all images, how many bytes come behind the head, two sums of these, and then the image: numbers
of four bytes, the last bits first, rows behind their lengths, and texts as rows of the numbers of their signs. Places
of the program's text stand in a row, each once; words of code have the numbers of theirs, from 1 on, and 0 for none.
"""

from trueimage.errors import BadThing
from trueimage.middleforms import is_number

BEGINNING = (84, 114, 117, 101, 73, 109, 103, 49)
SIGNS = "\n !\\\"#$&'()*+,-./0123456789:;<=>?@ABCDEFGHIJKLMNOPQRSTUVWXYZ[]^_`abcdefghijklmnopqrstuvwxyz{|}~"
HEAD_BYTES = 16
NUMBER_BYTES = 4
GREATEST_BYTE = 255
# A prime number that fits into two bytes.
MODULUS = 65521


def image_bytes(image):
    """The bytes of an image: a tuple of numbers from 0 to 255."""
    words, data, stack, limit, places, traps, names, pace, base = image
    writer = ByteWriter()
    writer.put_numbers((stack, limit, pace, base))
    writer.put_row(words)
    writer.put_row(data)
    found = _places_once(places)
    writer.put_number(len(found))
    for module, line, column in found:
        writer.put_text(module)
        writer.put_numbers((line, column))
    writer.put_numbers([0 if place is None else found[place] for place in places])
    writer.put_number(len(traps))
    for address, kind in traps:
        writer.put_number(address)
        writer.put_text(kind)
    writer.put_number(len(names))
    for name, address in names:
        writer.put_text(name)
        writer.put_number(address)
    head = ByteWriter()
    head.made.extend(BEGINNING)
    head.put_numbers((len(writer.made), _sums_of(writer.made)))
    return tuple(head.made + writer.made)


def _places_once(places):
    """For each place that there is its number, counted from 1."""
    found = {}
    for place in places:
        if place is not None and place not in found:
            found[place] = len(found) + 1
    return found


def _sums_of(numbers):
    """The sum of bytes, and the sum of these sums, in one number: no change of one byte keeps the first."""
    one, other = 1, 0
    for number in numbers:
        one += number
        other += one
    return one % MODULUS + (other % MODULUS << 16)


class ByteWriter:
    """Writes bytes."""

    def __init__(self):
        self.made = []

    def put_number(self, number):
        """A number comes."""
        self.made.extend((number & 255, number >> 8 & 255, number >> 16 & 255, number >> 24 & 255))

    def put_numbers(self, numbers):
        """Numbers come."""
        for number in numbers:
            self.put_number(number)

    def put_row(self, numbers):
        """A row of numbers comes, behind its length."""
        self.put_number(len(numbers))
        self.put_numbers(numbers)

    def put_text(self, text):
        """A text comes."""
        self.put_number(len(text))
        for sign in text:
            if sign not in SIGNS:
                raise BadThing(text)
            self.made.append(ord(sign))


def image_of(numbers):
    """The image with these bytes, or BadThing with the place where they are those of none."""
    _look_at_head(numbers)
    reader = ByteReader(numbers)
    stack, limit, pace, base = reader.next_numbers(4)
    words = reader.next_numbers(reader.next_number())
    data = reader.next_numbers(reader.next_number())
    found = [None]
    for _ in range(reader.next_number()):
        module = reader.next_text()
        found.append((module,) + reader.next_numbers(2))
    places = tuple([reader.next_of(found) for _ in words])
    traps = []
    for _ in range(reader.next_number()):
        address = reader.next_number()
        traps.append((address, reader.next_text()))
    names = []
    for _ in range(reader.next_number()):
        name = reader.next_text()
        names.append((name, reader.next_number()))
    if reader.at < len(numbers):
        raise BadThing(reader.at)
    return (words, data, stack, limit, places, tuple(traps), tuple(names), pace, base)


def _look_at_head(numbers):
    """BadThing unless these are bytes with the beginning, the length and the sums of an image's."""
    if not isinstance(numbers, (tuple, list)):
        raise BadThing(0)
    for at, number in enumerate(numbers):
        if not is_number(number, 0, GREATEST_BYTE):
            raise BadThing(at)
    for at, number in enumerate(BEGINNING):
        if at >= len(numbers) or numbers[at] != number:
            raise BadThing(at)
    reader = ByteReader(numbers)
    reader.at = len(BEGINNING)
    many, sums = reader.next_numbers(2)
    if len(numbers) != HEAD_BYTES + many:
        raise BadThing(min(len(numbers), HEAD_BYTES + many))
    if sums != _sums_of(numbers[HEAD_BYTES:]):
        raise BadThing(HEAD_BYTES)


class ByteReader:
    """Reads the bytes of an image, from behind their head on."""

    def __init__(self, numbers):
        self.bytes_told = numbers
        self.at = HEAD_BYTES
        self.signs = {ord(sign): sign for sign in SIGNS}

    def take(self, many):
        """The next bytes, so many of them."""
        if many > len(self.bytes_told) - self.at:
            raise BadThing(len(self.bytes_told))
        self.at += many
        return self.bytes_told[self.at - many:self.at]

    def next_number(self):
        """The next number."""
        first, second, third, fourth = self.take(NUMBER_BYTES)
        return first | second << 8 | third << 16 | fourth << 24

    def next_numbers(self, many):
        """So many numbers."""
        self.take(NUMBER_BYTES * many)
        self.at -= NUMBER_BYTES * many
        return tuple([self.next_number() for _ in range(many)])

    def next_text(self):
        """The next text."""
        signs = []
        for number in self.take(self.next_number()):
            if number not in self.signs:
                raise BadThing(self.at)
            signs.append(self.signs[number])
        return "".join(signs)

    def next_of(self, things):
        """That one of things whose number comes."""
        number = self.next_number()
        if number >= len(things):
            raise BadThing(self.at)
        return things[number]
