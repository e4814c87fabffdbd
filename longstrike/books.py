"""Books of rules: kinds of rows, columns by which rows refer to rows, and checks."""

from longstrike.errors import BadName, BadRule, NameInUse, UnknownCheck, UnknownKind, UnlikeBooks
from longstrike.forms import is_name, is_word_of

RULES = ("fall", "clear")
COLUMN_CHECKS = ("put", "turn", "keep", "hold", "again")
KIND_CHECKS = ("bare", "calm", "again")
BOOK_CHECKS = ("lone", "fresh")


class Book:
    """A book of rules, which never changes."""

    def __init__(self, kinds, columns=(), checks=()):
        self._kinds = _read_kinds(kinds)
        self._columns = _read_columns(columns, self._kinds)
        self._menu = _menu_of(self._kinds, self._columns)
        self._checks = _read_checks(checks, self._menu)

    def kinds(self):
        """Return the list of the pairs (name, is_open)."""
        return list(self._kinds)

    def columns(self):
        """Return the list of the tuples (name, home, goal, rule)."""
        return list(self._columns)

    def menu(self):
        """Return the list of all checks that a book of this shape can have."""
        return list(self._menu)

    def checks(self):
        """Return the list of the checks that the book has, in the order of the menu."""
        return list(self._checks)

    def columns_of(self, kind):
        """Return the list of the names of the columns whose home is this kind."""
        if not is_word_of(kind, [name for name, is_open in self._kinds]):
            raise UnknownKind(kind)
        return [name for name, home, goal, rule in self._columns if home == kind]

    def markable(self):
        """Return the list of the kinds of which a row can ever be marked."""
        found = {name: True for name, is_open in self._kinds if is_open}
        # A round that adds no kind ends the growth, so there are no more rounds than kinds.
        for _ in self._kinds:
            for name, home, goal, rule in self._columns:
                if rule == "fall" and goal in found:
                    found[home] = True
        return [name for name, is_open in self._kinds if name in found]

    def questions(self):
        """Return the list of the questions that can be asked about stores of the book."""
        found = []
        for name, home, goal, rule in self._columns:
            wrong = "unjust" if rule == "fall" else "spoilt"
            found.extend([word + " " + name for word in ("loose", "half", wrong)])
        found.extend(["undue " + name for name, is_open in self._kinds])
        found.append("stuck")
        return found

    def __len__(self):
        return len(self._checks)

    def __contains__(self, check):
        return is_word_of(check, self._checks)

    def __add__(self, check):
        self._want_check(check)
        return self._with_checks([*self._checks, check])

    def __sub__(self, check):
        self._want_check(check)
        return self._with_checks([kept for kept in self._checks if kept != check])

    def __or__(self, other):
        if not isinstance(other, Book):
            return NotImplemented
        want_one_shape(self, other)
        return self._with_checks([*self._checks, *other._checks])

    def __and__(self, other):
        if not isinstance(other, Book):
            return NotImplemented
        want_one_shape(self, other)
        return self._with_checks([check for check in self._checks if check in other._checks])

    def __eq__(self, other):
        return isinstance(other, Book) and self._has_shape_of(other) and self._checks == other._checks

    def __le__(self, other):
        if not isinstance(other, Book):
            return NotImplemented
        return self._has_shape_of(other) and all([check in other._checks for check in self._checks])

    def __lt__(self, other):
        if not isinstance(other, Book):
            return NotImplemented
        return self <= other and self != other

    def _with_checks(self, checks):
        return Book(self._kinds, self._columns, checks)

    def _has_shape_of(self, other):
        return self._kinds == other._kinds and self._columns == other._columns

    def _want_check(self, check):
        if not is_word_of(check, self._menu):
            raise UnknownCheck(check)


def want_one_shape(one, other):
    """Raise an error for two books that are not of one shape."""
    if one.kinds() != other.kinds() or one.columns() != other.columns():
        raise UnlikeBooks()


def _read_kinds(kinds):
    found = []
    for name, is_open in kinds:
        _want_free_name(name, [kind[0] for kind in found])
        found.append((name, is_open))
    return tuple(found)


def _read_columns(columns, kinds):
    names = [kind[0] for kind in kinds]
    found = []
    for name, home, goal, rule in columns:
        _want_free_name(name, names + [column[0] for column in found])
        for kind in (home, goal):
            if not is_word_of(kind, names):
                raise UnknownKind(kind)
        if not is_word_of(rule, RULES):
            raise BadRule(rule)
        found.append((name, home, goal, rule))
    return tuple(found)


def _want_free_name(name, taken):
    if not is_name(name):
        raise BadName(name)
    if name in taken:
        raise NameInUse(name)


def _menu_of(kinds, columns):
    found = []
    for column in columns:
        found.extend([word + " " + column[0] for word in COLUMN_CHECKS])
    for kind in kinds:
        found.extend([word + " " + kind[0] for word in KIND_CHECKS])
    found.extend(BOOK_CHECKS)
    return tuple(found)


def _read_checks(checks, menu):
    given = list(checks)
    for check in given:
        if not is_word_of(check, menu):
            raise UnknownCheck(check)
    return tuple([check for check in menu if check in given])
