"""[59]: images as bytes."""

import random
import unittest

from images import image_of_words
from middlefunctions import random_unit
from programs import random_program
from support import checked
from trueimage.errors import BadThing
from trueimage.imagebytes import image_bytes, image_of
from trueimage.linking import link
from trueimage.lowering import lower_module
from trueimage.machine import run_image
from trueimage.objects import object_of

MAIN = "module m; int g[3] = {1, 2}; int main() { out(g[in()]); return 7; }"


def linked(text, limit=9, base=4096):
    return link([object_of(lower_module(checked(text)[0]))], (), limit, base)


class ImageBytesTest(unittest.TestCase):
    def wrong(self, numbers):
        """These are the bytes of no image; the place is one of them, or the one behind."""
        with self.assertRaises(BadThing) as caught:
            image_of(numbers)
        place = caught.exception.thing
        self.assertTrue(isinstance(place, int) and not isinstance(place, bool) and 0 <= place <= len(numbers), place)

    def test_bytes_of_images(self):
        found = {}
        for seed in range(80):
            numbers = random.Random(seed)
            unit = lower_module(checked(random_program(seed)[0])[0]) if seed % 3 == 0 else random_unit(seed)
            image = link([object_of(unit)], (), numbers.choice((1, 2, 1000)), numbers.choice((0, 4096, 2 ** 28)))
            told = image_bytes(image)
            self.assertIsInstance(told, tuple)
            self.assertTrue(all(isinstance(number, int) and 0 <= number <= 255 for number in told))
            self.assertEqual(image_of(told), image)
            self.assertEqual(image_of(list(told)), image)
            self.assertEqual(image_bytes(image), told)
            self.assertEqual(found.setdefault(told, image), image)
            self.assertEqual(run_image(image_of(told), (1, 2), 500), run_image(image, (1, 2), 500))

    def test_images_that_no_link_has_made(self):
        for image in (image_of_words(()), image_of_words((0, 2 ** 32 - 1)), image_of_words((), (2 ** 32 - 1, 0), 2 ** 24), image_of_words((115,), base=0),
                      ((), (), 0, 1, (), (), (), 8, 0), ((115, 5), (7,), 16, 1000, (None, ("a.b", 30000, 1)), ((4096, "zero"), (4100, "told")), (("f", 4096), ("g", 8192)), 200000, 2 ** 28),
                      ((5,) * 3, (), 0, 1, (("m", 1, 1), None, ("m", 1, 1)), (), (("a\n~ !\"\\", 1),), 8, 16)):
            self.assertEqual(image_of(image_bytes(image)), image)

    def test_each_byte_changed(self):
        numbers = random.Random(1)
        told = image_bytes(linked(MAIN))
        for at in range(len(told)):
            for number in {(told[at] + 1) % 256, told[at] ^ 128, numbers.randrange(256)} - {told[at]}:
                self.wrong(told[:at] + (number,) + told[at + 1:])
        for image in (image_of_words(()), linked(random_program(3)[0])):
            told = image_bytes(image)
            for _ in range(300):
                at = numbers.randrange(len(told))
                self.wrong(told[:at] + ((told[at] + numbers.randrange(1, 256)) % 256,) + told[at + 1:])

    def test_each_beginning(self):
        told = image_bytes(linked(MAIN))
        for at in range(len(told)):
            self.wrong(told[:at])
        for at in range(1, 40):
            self.wrong(told[at:])
        self.wrong(told + told)
        for number in (0, 1, 255):
            self.wrong(told + (number,))
            self.wrong((number,) + told)

    def test_places(self):
        told = image_bytes(linked(MAIN))
        with self.assertRaises(BadThing) as caught:
            image_of(told[:30] + (256,) + told[31:])
        self.assertEqual(caught.exception.thing, 30)
        with self.assertRaises(BadThing) as caught:
            image_of(told + (0,))
        self.assertEqual(caught.exception.thing, len(told))
        with self.assertRaises(BadThing) as caught:
            image_of(told[1:])
        self.assertEqual(caught.exception.thing, 0)

    def test_values_that_are_no_bytes(self):
        told = image_bytes(linked(MAIN))
        for number in (-1, 256, True, False, None, "5", 5.0, (5,), 2 ** 40):
            for at in (0, 7, 9, 13, 20, len(told) - 1):
                self.wrong(told[:at] + (number,) + told[at + 1:])
        for thing in ((), [], (0,) * 100, (255,) * 3, list(range(200))):
            self.wrong(thing)
        for thing in (None, 5, "bytes", bytes(told), {}, True):
            with self.assertRaises(BadThing):
                image_of(thing)

    def test_bytes_with_right_sums(self):
        """Whatever else is wrong, an image is read, or BadThing is raised."""
        numbers = random.Random(2)
        right = image_bytes(linked(MAIN))
        for _ in range(3000):
            inner = list(right[16:])
            for _ in range(numbers.randrange(1, 4)):
                inner[numbers.randrange(len(inner))] = numbers.choice((0, 1, 5, 255, numbers.randrange(256)))
            if numbers.random() < 0.2:
                del inner[numbers.randrange(len(inner)):]
            told = right[:8] + self.head(inner) + tuple(inner)
            try:
                image = image_of(told)
            except BadThing as error:
                self.assertTrue(0 <= error.thing <= len(told))
            else:
                self.assertEqual(len(image), 9)
                self.assertEqual(len(image[0]), len(image[4]))

    def head(self, inner):
        """The length and the sums of bytes, worked out by the rule that the file tells."""
        one, other = 1, 0
        for number in inner:
            one = (one + number) % 65521
            other = (other + one) % 65521
        return tuple(len(inner).to_bytes(4, "little") + one.to_bytes(2, "little") + other.to_bytes(2, "little"))

    def test_names_that_no_text_has(self):
        image = image_of_words((115,), names=(("\u00e9", 4096),))
        with self.assertRaises(BadThing):
            image_bytes(image)


if __name__ == "__main__":
    unittest.main()
