"""A workshop: codes under names, what was received for them, and the changes that can be taken back."""

from nearestword.errors import InvalidCode, NameTaken, NothingToRedo, NothingToUndo, UnknownName
from nearestword.nearest import nearest
from nearestword.words import require_received


class Trial:
    """A block of changes, none of which stays if the block is left by an error."""

    def __init__(self, workshop):
        self.workshop = workshop
        self._moment = None

    def __enter__(self):
        self._moment = self.workshop._moment
        return self.workshop

    def __exit__(self, kind, value, trace):
        workshop = self.workshop
        if kind is not None:
            workshop._moment = self._moment


class Shelf:
    """A code and the received words for it; a shelf is never changed.

    The words stand in a chain, the last one first: a chain is a tuple (word, chain of the words before it), or
    None without words. So the shelf with one word more shares the words of the one before.
    """

    def __init__(self, code, many, chain):
        self.code = code
        self.many = many
        self._chain = chain

    def with_code(self, code):
        """The shelf with another code and the same words."""
        return Shelf(code, self.many, self._chain)

    def with_word(self, word):
        """The shelf with one word more."""
        return Shelf(self.code, self.many + 1, (tuple(word), self._chain))

    def words(self):
        """The words, the first one first, each as a tuple."""
        found = []
        chain = self._chain
        while chain is not None:
            word, chain = chain
            found.append(word)
        return found[::-1]


def _mark_of(code):
    """What is the same for codes that count as the same, and for no others."""
    field = code.field
    return (field.prime, field.modulus, code.length, tuple([tuple(row) for row in code.rows]))


class Workshop:
    """Keeps codes and received words, and takes changes back."""

    def __init__(self):
        # A moment is a tuple (shelves, past, future). Shelves are a dict, which is never changed. The past and
        # the future are chains of shelves, the nearest ones first, or None: (shelves, chain of the farther ones).
        self._moment = ({}, None, None)
        self._answers = {}

    def _shelves(self):
        """The shelves as they are now."""
        return self._moment[0]

    def _shelf(self, name):
        """The shelf of that name."""
        shelves = self._shelves()
        if name not in shelves:
            raise UnknownName(name)
        return shelves[name]

    def _change_to(self, shelves):
        """Makes a change."""
        before, past, _ = self._moment
        self._moment = (shelves, (before, past), None)

    def _put(self, name, shelf):
        """Makes the change that puts the shelf under the name; a name that is there keeps its place."""
        shelves = dict(self._shelves())
        shelves[name] = shelf
        self._change_to(shelves)

    def add_code(self, name, code):
        """Adds the code under a new name."""
        if name in self._shelves():
            raise NameTaken(name)
        self._put(name, Shelf(code, 0, None))

    def replace_code(self, name, code):
        """Puts the code in the place of another one, whose received words it gets."""
        shelf = self._shelf(name)
        if code.length != shelf.code.length or not code.field.same_as(shelf.code.field):
            raise InvalidCode("the new code has another length or another field")
        self._put(name, shelf.with_code(code))

    def remove_code(self, name):
        """Removes the code and its received words."""
        self._shelf(name)
        self._change_to({other: shelf for other, shelf in self._shelves().items() if other != name})

    def receive(self, name, received):
        """Adds a received word, and returns how many there were before."""
        shelf = self._shelf(name)
        require_received(shelf.code.field, shelf.code.length, received)
        self._put(name, shelf.with_word(received))
        return shelf.many

    def code_names(self):
        """The names in the order of the codes."""
        return list(self._shelves())

    def code_of(self, name):
        """The code of that name."""
        return self._shelf(name).code

    def received_words(self, name):
        """The received words, in the order in which they were added."""
        return [list(word) for word in self._shelf(name).words()]

    def answers(self, name):
        """The answers about the nearest words, one for each received word."""
        shelf = self._shelf(name)
        mark = _mark_of(shelf.code)
        return [self._answer(shelf.code, mark, word) for word in shelf.words()]

    def _answer(self, code, mark, word):
        """The answer for one received word, which is computed unless it is kept already."""
        key = (mark, word)
        if key not in self._answers:
            self._answers[key] = nearest(code, list(word))
        distance, found = self._answers[key]
        return (distance, [list(near) for near in found])

    @property
    def computed(self):
        """The number of answers that have been computed."""
        return len(self._answers)

    def undo(self):
        """Takes back the last change that has not been taken back."""
        shelves, past, future = self._moment
        if past is None:
            raise NothingToUndo("there is no change to take back")
        before, earlier = past
        self._moment = (before, earlier, (shelves, future))

    def redo(self):
        """Restores the change that was taken back last."""
        shelves, past, future = self._moment
        if future is None:
            raise NothingToRedo("there is no change to restore")
        behind, later = future
        self._moment = (behind, (shelves, past), later)

    def trial(self):
        """A block of changes for a `with` statement."""
        return Trial(self)

    def change_all(self, deeds):
        """Makes the changes of the list; if one of them raises, none of them stays."""
        with self.trial():
            for deed in deeds:
                self._make(deed)

    def _make(self, deed):
        """Makes one change of a list."""
        match deed:
            case ("add", name, code):
                self.add_code(name, code)
            case ("replace", name, code):
                self.replace_code(name, code)
            case ("remove", name):
                self.remove_code(name)
            case ("receive", name, received):
                self.receive(name, received)
            case ("all", deeds):
                self.change_all(deeds)
