"""Rules: what becomes of each value of a mark at each deed, and what a device shows when it has taken."""

from leafmarks.basics import is_row, is_word, lines_of
from leafmarks.errors import BadRule, BadText

MOST_FIELDS = 3
WAYS = ("stay", "field", "greater")
COLUMNS = (
    ("read", ("no", "last", "raise", "row")),
    ("jump", ("no", "last", "raise", "lower")),
    ("anew", ("no", "least")),
    ("give", ("no", "last", "raise", "later")),
    ("take", ("no", "last", "raise", "later")),
    ("kept", ("exact", "floored")),
)


class Rule:
    """One to three fields, and what is shown."""

    def __init__(self, fields, show):
        require_fields(fields)
        names = [field[0] for field in fields]
        if not is_pair_shown(show) or show[1] not in names:
            raise BadRule(None, "show")
        self.rows = tuple([tuple(field) for field in fields])
        self.way = show[0]
        self.at = names.index(show[1])

    def fields(self):
        """Return the list of the fields."""
        return list(self.rows)

    def show(self):
        """Return the pair of the way, and the name of the field, that is shown."""
        return self.way, self.rows[self.at][0]

    def text(self):
        """Return the rule as a text, from which `of_text` makes it again."""
        lines = [line_of_field(row) for row in self.rows]
        return "".join([*lines, line_of_show(self.show())])

    @classmethod
    def of_text(cls, text):
        """Return the rule of a text."""
        fields, show = [], None
        lines = lines_of(text)
        for number, line in enumerate(lines, start=1):
            field = field_of_line(line)
            if show is None and field is not None and len(fields) < MOST_FIELDS:
                fields.append(field)
            elif show is None and len(fields) > 0 and show_of_line(line) is not None:
                show = show_of_line(line)
            else:
                raise BadText(number)
        if show is None:
            raise BadText(len(lines) + 1)
        return cls(fields, show)

    @staticmethod
    def furthest():
        """Return the rule that shows how far any device has read."""
        return Rule([("far", "raise", "no", "least", "raise", "raise", "exact")], ("greater", "far"))

    @staticmethod
    def latest():
        """Return the rule that shows what was given last."""
        return Rule([("late", "last", "last", "least", "last", "last", "exact")], ("field", "late"))

    @staticmethod
    def newest():
        """Return the rule that shows where the latest deed led."""
        return Rule([("late", "last", "last", "least", "later", "later", "exact")], ("field", "late"))

    @staticmethod
    def inrow():
        """Return the rule that shows how far was read without a gap."""
        return Rule([("row", "row", "no", "least", "raise", "raise", "exact")], ("greater", "row"))

    def words_for(self, column):
        """Return the words that the fields have for a deed, or for what is kept."""
        at = 1 + [name for name, words in COLUMNS].index(column)
        return [row[at] for row in self.rows]

    def __eq__(self, other):
        return isinstance(other, Rule) and self.rows == other.rows and self.way == other.way and self.at == other.at


def require_fields(fields):
    """Refuse any object that is no list of one to three fields."""
    if not is_row(fields) or len(fields) == 0:
        raise BadRule(0, "field")
    names = []
    for index, field in enumerate(fields):
        reason = wrong_with(field, names)
        if reason is not None:
            raise BadRule(index, reason)
        names.append(field[0])


def wrong_with(field, names):
    """Return the first reason for which an object is no field behind those of the names, or None."""
    if len(names) == MOST_FIELDS or not is_row(field) or len(field) != 1 + len(COLUMNS):
        return "field"
    if not is_word(field[0]) or field[0] in names:
        return "name"
    for (column, words), word in zip(COLUMNS, field[1:]):
        if word not in words:
            return column
    return None


def is_pair_shown(show):
    """Tell whether any object is a pair of a way and a word."""
    return is_row(show) and len(show) == 2 and show[0] in WAYS and is_word(show[1])


def line_of_field(field):
    """Return the line of a field."""
    parts = ["field", field[0]]
    for (column, words), word in zip(COLUMNS, field[1:]):
        # What is kept is told by its word alone.
        parts.extend([word] if column == "kept" else [column, word])
    return " ".join(parts) + "\n"


def line_of_show(show):
    """Return the line of what is shown."""
    return f"show {show[0]} {show[1]}\n"


def field_of_line(line):
    """Return the field whose line this is, or None."""
    parts = line.rstrip("\n").split(" ")
    field = (*parts[1:2], *parts[3:12:2], *parts[12:])
    if wrong_with(field, []) is None and line_of_field(field) == line:
        return field
    return None


def show_of_line(line):
    """Return the pair that is shown whose line this is, or None."""
    show = tuple(line.rstrip("\n").split(" ")[1:])
    if is_pair_shown(show) and line_of_show(show) == line:
        return show
    return None
