"""The shell: the rows of a text are done one by one on a floor of files."""

from gatetown.errors import BadKind, BadLine, NoFile, NoRoom, TooLong
from gatetown.files import Floor
from gatetown.kinds import looked
from gatetown.machine import WORDS
from gatetown.making import image_of
from gatetown.reading import tree_of
from gatetown.signs import text_of_words, words_of_text
from gatetown.town import town_run
from gatetown.written import is_lettered, number_written

MOST_NAME = 8
MOST_PROGRAMS = 8


def is_file_name(text):
    return is_lettered(text, MOST_NAME)


def program_of(text):
    # A tuple of the program's file and of the file of the words given, None where it has none; None where it is none.
    parted = text.partition("<")
    if not is_file_name(parted[0]):
        return None
    if parted[1] == "":
        return (parted[0], None)
    return (parted[0], parted[2]) if is_file_name(parted[2]) else None


def words_command(name, numbers):
    words = [number_written(number, WORDS - 1) for number in numbers]
    return ("words", name, words) if is_file_name(name) and None not in words else None


def run_command(texts):
    programs = [program_of(text) for text in texts]
    return ("run", programs) if 1 <= len(programs) <= MOST_PROGRAMS and None not in programs else None


def command_of(row):
    # A tuple of a command and of what it is about; None where the row is none.
    words = row.split(" ")
    if words[0] == "list" and len(words) == 1:
        return ("list",)
    if words[0] in ("keep", "drop") and len(words) == 2:
        return (words[0], words[1]) if is_file_name(words[1]) else None
    if words[0] == "words" and len(words) > 1:
        return words_command(words[1], words[2:])
    return run_command(words[1:]) if words[0] == "run" else None


def made_image(words, task):
    # A tuple of the image and None, or of None and the refusal.
    read = text_of_words(words)
    row = read[1]
    if row is not None:
        return (None, f"refused line {task} {row}")
    try:
        tree = tree_of(read[0])
        looked(tree)
        return (image_of(tree)[0], None)
    except BadLine as e:
        row = e.row
        return (None, f"refused line {task} {row}")
    except BadKind as e:
        place = e.place
        return (None, f"refused kind {task} {place}")
    except TooLong:
        return (None, "refused long")


def shown_run(answer):
    rows = []
    for place, word in answer[0]:
        task = place + 1
        rows.append(f"{task} {word}")
    for task, end in enumerate(answer[1], start=1):
        rows.append(f"{task} {end}")
    return rows


class Shell:
    def __init__(self, rows, blocks, quota, beats):
        self.rows = rows
        self.at = 0
        self.floor = Floor(blocks)
        self.quota = quota
        self.beats = beats

    # Each of the following tells the list of the rows that are shown.

    def do_row(self):
        row = self.rows[self.at]
        self.at = self.at + 1
        if row == "":
            return []
        command = command_of(row)
        if command is None:
            return ["refused row"]
        if command[0] == "keep":
            return self.keep_text(command[1])
        if command[0] == "words":
            return self.keep_words(command[1], command[2])
        if command[0] == "drop":
            return self.drop_file(command[1])
        if command[0] == "list":
            return self.list_files()
        return self.run_programs(command[1])

    def keep_text(self, name):
        rest = self.rows[self.at:]
        if "." not in rest:
            self.at = len(self.rows)
            return ["refused row"]
        count = rest.index(".")
        self.at = self.at + count + 1
        words = words_of_text("\n".join(rest[:count]))
        return ["refused sign"] if words is None else self.keep_words(name, words)

    def keep_words(self, name, words):
        try:
            self.floor.keep(name, words)
        except NoRoom:
            return ["refused room"]
        return ["kept"]

    def drop_file(self, name):
        try:
            self.floor.drop(name)
        except NoFile:
            return ["refused file"]
        return ["dropped"]

    def list_files(self):
        rows = []
        for name in self.floor.names():
            count = len(self.floor.words_of(name))
            rows.append(f"{name} {count}")
        return rows

    def run_programs(self, programs):
        try:
            texts = [self.floor.words_of(program[0]) for program in programs]
            given = [[] if program[1] is None else self.floor.words_of(program[1]) for program in programs]
        except NoFile:
            return ["refused file"]
        images = []
        for task, words in enumerate(texts, start=1):
            answer = made_image(words, task)
            if answer[1] is not None:
                return [answer[1]]
            images.append(answer[0])
        try:
            return shown_run(town_run(images, given, self.quota, self.beats))
        except TooLong:
            return ["refused long"]


def shell(text, blocks, quota, beats):
    session = Shell(text.split("\n"), blocks, quota, beats)
    shown = []
    while session.at < len(session.rows):
        shown.extend(session.do_row())
    return "\n".join(shown)
