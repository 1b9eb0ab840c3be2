"""Boards: places of two owners, and ways between them that spell words."""

from noteless.errors import BoardError, InvalidDeed, InvalidPlace, InvalidText, InvalidWays, PlaceInUse, UnknownPlace

OWNERS = ("wisher", "foe")
NAME_CHARACTERS = "abcdefghijklmnopqrstuvwxyz0123456789"
LONGEST_NAME = 8
WAY_LETTERS = "abcd"
LONGEST_WORD = 300


class Board:
    """A board; made without places."""

    MOST_PLACES = 40
    MOST_WAYS = 6

    def __init__(self):
        # For each name, in the order of the places, the owner and the ways. A row is replaced and never changed,
        # so a copy of this dict keeps the whole board.
        self._rows = {}

    @classmethod
    def read(cls, text):
        """The board with this text; raises InvalidText if there is none."""
        board = cls()
        board._rows = _rows_of_text(text)
        return board

    @staticmethod
    def valid_name(name):
        """Tell whether a string may be the name of a place."""
        return 1 <= len(name) <= LONGEST_NAME and all([character in NAME_CHARACTERS for character in name])

    def add(self, place, owner, ways):
        """Add a place at the end."""
        if not Board.valid_name(place) or place in self._rows or owner not in OWNERS:
            raise InvalidPlace(place)
        if len(self._rows) >= Board.MOST_PLACES:
            raise InvalidPlace(place)
        _refuse_ways(place, ways, [*self._rows, place])
        self._rows[place] = (owner, list(ways))

    def give(self, place, owner):
        """Change the owner of a place."""
        self._refuse_unknown(place)
        if owner not in OWNERS:
            raise InvalidPlace(place)
        self._rows[place] = (owner, self._rows[place][1])

    def remove(self, place):
        """Remove a place to which no way of another place leads."""
        self._refuse_unknown(place)
        for name, row in self._rows.items():
            if name != place and place in [way[1] for way in row[1]]:
                raise PlaceInUse(place)
        del self._rows[place]

    def change(self, deeds):
        """Do the deeds in order, or none of them if one is refused."""
        before = self._kept_rows()
        for position, deed in enumerate(deeds):
            try:
                self._do(deed)
            except BoardError as e:
                self._rows = before
                raise InvalidDeed(position, deed[1]) from e

    def _attempt(self, deeds):
        """Do the deeds in order, or none of them if one is refused; that is no error."""
        before = self._kept_rows()
        try:
            for deed in deeds:
                self._do(deed)
        except BoardError:
            self._rows = before

    def _do(self, deed):
        kind = deed[0]
        if kind == "add":
            self.add(deed[1], deed[2], deed[3])
        elif kind == "ways":
            self[deed[1]] = deed[2]
        elif kind == "give":
            self.give(deed[1], deed[2])
        elif kind == "remove":
            self.remove(deed[1])
        else:
            self._attempt(deed[1])

    def trial(self):
        """A Trial for one `with` block."""
        return Trial(self)

    def owner(self, place):
        """The owner of a place."""
        self._refuse_unknown(place)
        return self._rows[place][0]

    def copy(self):
        """A board of its own with the same places."""
        board = Board()
        board._rows = self._kept_rows()
        return board

    def text(self):
        """The text of the board."""
        lines = []
        for place, row in self._rows.items():
            ways = [f"{word}>{target}" for word, target in row[1]]
            lines.append(" ".join([place, row[0], *ways]))
        return "\n".join(lines)

    def table(self):
        """A line for each place: its name, its owner, the number of its ways and the length of their words."""
        lines = []
        for place, row in self._rows.items():
            length = sum([len(way[0]) for way in row[1]])
            lines.append(f"{place:<8} {row[0]:<6} {len(row[1]):>2} {length:>5}")
        return lines

    def _kept_rows(self):
        return {place: self._rows[place] for place in self._rows}

    def _refuse_unknown(self, place):
        if place not in self._rows:
            raise UnknownPlace(place)

    def __getitem__(self, at):
        self._refuse_unknown(at)
        return list(self._rows[at][1])

    def __setitem__(self, at, worth):
        self._refuse_unknown(at)
        _refuse_ways(at, worth, self._rows)
        self._rows[at] = (self._rows[at][0], list(worth))

    def __contains__(self, x):
        return x in self._rows

    def __len__(self):
        return len(self._rows)

    def __iter__(self):
        return iter(self._rows)


class Trial:
    """A block of steps on a board, all of which are taken back if the block raises an exception."""

    def __init__(self, board):
        self._board = board
        self._before = None

    def __enter__(self):
        self._before = self._board._kept_rows()

    def __exit__(self, kind, value, trace):
        board = self._board
        if kind is not None:
            board._rows = self._before


def _refuse_ways(place, ways, names):
    """Raise InvalidWays unless the ways of the place fit a board with these names."""
    if not 1 <= len(ways) <= Board.MOST_WAYS:
        raise InvalidWays(place)
    for word, target in ways:
        if not _is_word(word) or target not in names:
            raise InvalidWays(place)


def _is_word(word):
    """Tell whether the word may be the word of a way."""
    return 1 <= len(word) <= LONGEST_WORD and all([letter in WAY_LETTERS for letter in word])


def _rows_of_text(text):
    """For each name in the text of a board the owner and the ways."""
    rows = {}
    if text == "":
        return rows
    lines = text.split("\n")
    openings = [line.partition(" ")[0] for line in lines]
    for at, line in enumerate(lines):
        parts = line.split(" ")
        if at >= Board.MOST_PLACES or not _is_line(parts, openings) or parts[0] in rows:
            raise InvalidText(at + 1)
        rows[parts[0]] = (parts[1], [_way_of_text(part) for part in parts[2:]])
    return rows


def _is_line(parts, openings):
    """Tell whether the parts of a line are a name, an owner, and ways to places with which lines begin."""
    if not 3 <= len(parts) <= Board.MOST_WAYS + 2 or not Board.valid_name(parts[0]) or parts[1] not in OWNERS:
        return False
    for word, target in [_way_of_text(part) for part in parts[2:]]:
        if not _is_word(word) or not Board.valid_name(target) or target not in openings:
            return False
    return True


def _way_of_text(part):
    """The word and the target of a way; where no `>` stands, the target is empty and no name."""
    word, _, target = part.partition(">")
    return word, target
