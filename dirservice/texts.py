"""Texts of entries, directories and scripts."""

from dirservice.changes import WITH_VALUES
from dirservice.directories import Directory
from dirservice.lines import Lines, read_blocks
from dirservice.values import is_valid
from dirservice.words import is_value, is_word


def entry_text(entry):
    """The text of an entry."""
    return entry_block("name", entry)


def read_entry(text):
    """The entry with a text."""
    lines = Lines(text)
    entry = read_entry_block(lines)
    lines.check_over()
    return entry


def write(directory):
    """The text of a directory."""
    return "\n\n".join([entry_text(entry) for entry in directory.walk()])


def read(schema, text):
    """A directory with the entries of a text."""
    return Directory(schema, read_blocks(text, read_entry_block))


def script_text(deeds):
    """The text of deeds."""
    return "\n\n".join([deed_text(deed) for deed in deeds])


def read_script(text):
    """The deeds of a text."""
    return read_blocks(text, read_deed)


def entry_block(word, entry):
    """The lines of an entry, of which the first one begins with a word."""
    rows = [f"{word}: {entry.name.text}"]
    for one in entry.words:
        rows.extend([f"{one}: {value}" for value in entry[one]])
    return "\n".join(rows)


def deed_text(deed):
    """The text of a deed."""
    if deed[0] == "add":
        return entry_block("add", deed[1])
    rows = [f"{deed[0]}: {deed[1]}"]
    if deed[0] == "modify":
        rows.extend([change_text(change) for change in deed[2]])
    if deed[0] == "rename":
        rows.extend(new_name_rows(deed))
    return "\n".join(rows)


def change_text(change):
    """The lines of a change."""
    sign, word, given = change
    if sign == "increment":
        return f"increment {word} {given}"
    return "\n".join([f"{sign} {word}"] + [f"= {value}" for value in given])


def new_name_rows(deed):
    """The lines of a rename behind the first one."""
    leaf, under, keep = deed[2:]
    rows = [f"leaf: {leaf}"]
    if under is not None:
        rows.append(f"under: {under}")
    if keep:
        rows.append("keep: TRUE")
    return rows


def read_entry_block(lines):
    """Reads an entry."""
    return lines.read_entry("name")


def read_deed(lines):
    """Reads a deed."""
    if lines.begins("add"):
        return "add", lines.read_entry("add")
    if lines.begins("delete"):
        return "delete", lines.read_text("delete")
    if lines.begins("rename"):
        return ("rename", lines.read_text("rename"), lines.read_text("leaf")) + read_new_place(lines)
    name = lines.read_text("modify")
    changes = []
    while not lines.is_block_over:
        changes.append(read_change(lines))
    return "modify", name, tuple(changes)


def read_new_place(lines):
    """Reads the lines of a rename behind its leaf, if they are there."""
    under = lines.read_text("under") if lines.begins("under") else None
    keep = lines.row == "keep: TRUE"
    if keep:
        lines.go_on()
    return under, keep


def read_change(lines):
    """Reads a change."""
    sign, _, rest = lines.row.partition(" ")
    if sign == "increment":
        word, _, number = rest.partition(" ")
        lines.check(is_word(word) and is_valid("integer", number))
        lines.go_on()
        return sign, word, int(number)
    lines.check(sign in WITH_VALUES and is_word(rest))
    lines.go_on()
    return sign, rest, read_values(lines)


def read_values(lines):
    """Reads the lines of the values of a change."""
    values = []
    while lines.row.startswith("= ") and is_value(lines.row[2:]):
        values.append(lines.row[2:])
        lines.go_on()
    return tuple(values)
