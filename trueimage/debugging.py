"""The debugger [62]: what is told of runs of images, step by step, and of their code."""

from trueimage.frames import RA, SP
from trueimage.linking import stack_start
from trueimage.listing import listing
from trueimage.readymachine import ReadyMachine

BYTES = 4
# The words that begin an image.
BEGINNING = 6


class Watch:
    """A run that is watched, step by step."""

    def __init__(self, image, inputs, most):
        self.machine = ReadyMachine(image, inputs)
        self.most = most
        # The instruction, and the place of its word, that the last step was about.
        self.instruction = None
        self.place = None

    def step(self):
        """The next step is made: whether there was one."""
        machine = self.machine
        if machine.ended is not None or machine.steps >= self.most:
            return False
        number = machine.word_number()
        self.instruction = machine.instructions[number] if number >= 0 else None
        self.place = machine.places[number] if number >= 0 else None
        machine.step()
        # Where no instruction is the run ends without a step.
        return self.instruction is not None


def trail(image, inputs, most):
    """The list of the places of the first steps, a row of equal ones once."""
    watch = Watch(image, inputs, most)
    found = []
    while watch.step():
        if watch.place is not None and watch.place not in found[-1:]:
            found.append(watch.place)
    return found


def counts(image, inputs, most):
    """For each place, ascending, how many of the first steps were made for it."""
    watch = Watch(image, inputs, most)
    found = {}
    while watch.step():
        if watch.place is not None:
            found[watch.place] = found.get(watch.place, 0) + 1
    return {place: found[place] for place in sorted(found)}


def stops_at(image, inputs, place, most):
    """The list of how many steps were made whenever the machine comes to a place from another one."""
    watch = Watch(image, inputs, most)
    found = []
    before = None
    while watch.step():
        if watch.place == place and before != place:
            found.append(watch.machine.steps - 1)
        before = watch.place
    return found


def open_calls(image, inputs, steps):
    """The names of the functions that are open behind so many steps, main first."""
    watch = Watch(image, inputs, steps)
    functions = _functions_of_words(image)
    found = []
    while watch.step():
        name, first, second = watch.instruction[:3]
        number = watch.machine.word_number()
        here = functions[number] if number >= 0 else None
        if name in ("jal", "jalr") and first == RA:
            found.append(here)
        elif name == "jalr" and first == 0 and second == RA:
            del found[-1:]
        elif found and here is not None:
            # A jump to another function goes on in the place of the one that was open.
            found[-1] = here
    return tuple([name for name in found if name is not None])


def _functions_of_words(image):
    """For each word of code the function in which it stands, None for those that begin the image."""
    starts = _function_starts(image)
    found = []
    here = None
    for at in range(len(image[0])):
        here = starts.get(image[8] + BYTES * at, here)
        found.append(here)
    return found


def _function_starts(image):
    """The functions of an image by their addresses, ascending; what stands behind the code is a global."""
    end = image[8] + BYTES * len(image[0])
    return {address: name for address, name in sorted([(address, name) for name, address in image[6]]) if address < end}


def name_at(image, address):
    """The function that has an address of code, or None."""
    found = None
    if address < image[8] + BYTES * len(image[0]):
        for start, name in _function_starts(image).items():
            if start <= address:
                found = name
    return found


def word_told(image, inputs, steps, name, at):
    """A word of a global behind so many steps."""
    machine = ReadyMachine(image, inputs)
    machine.go(steps)
    words, place = machine.field_at(dict(image[6])[name] + BYTES * at)
    return None if words is None else words[place]


def deepest(image, inputs, most):
    """The most bytes of the stack in use ahead of a step behind the words that begin an image."""
    watch = Watch(image, inputs, most)
    end = stack_start(image) + image[2]
    behind = image[8] + BYTES * BEGINNING
    found = 0
    going = True
    while going:
        ahead, used = watch.machine.pc, end - watch.machine.registers[SP]
        going = watch.step()
        if going and ahead >= behind:
            found = max(found, used)
    return found


def image_listing(image):
    """The list of the lines of an image's code: a line ahead of each function, and one for each word."""
    starts = _function_starts(image)
    lines = []
    for at, line in enumerate(listing(image[0], image[8])):
        address = image[8] + BYTES * at
        if address in starts:
            lines.append(starts[address] + ":")
        lines.append("  " + line)
    return lines
