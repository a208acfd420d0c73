"""Point 8 once more: what a glass does, read off its lines at each step."""


def depth(line):
    return (len(line) - len(line.lstrip())) // 2


def below(lines, place):
    """The lines that belong to the line at this place."""
    found = []
    for line in lines[place + 1:]:
        if depth(line) <= depth(lines[place]):
            break
        found.append(line)
    return found


def done(lines, cells):
    """Does the commands on the cells; whether none fails."""
    place = 0
    while place < len(lines):
        words = lines[place].split()
        inner = below(lines, place)
        behind = place + 1 + len(inner)
        if words[0] == "set":
            cells[words[1]] = words[2]
        elif words[0] == "copy":
            cells[words[3]] = cells[words[1]]
        elif words[0] == "want" and cells[words[1]] != words[2]:
            return False
        elif words[0] == "fail":
            return False
        elif words[0] == "if":
            others = []
            if behind < len(lines) and lines[behind].split() == ["else"]:
                others = below(lines, behind)
                behind += 1 + len(others)
            if not done(inner if cells[words[1]] == words[3] else others, cells):
                return False
        place = behind
    return True


class PlainGlass:
    """The cells of the store and of some workers, as dicts."""

    def __init__(self, text, many):
        self.lines = text.split("\n")
        self.words = {}
        for line in self.lines:
            if line.startswith(("cell ", "shared ")):
                kind, name, *words = line.split()
                self.words[name] = (kind, words)
        self.workers = [None] * many
        for number in range(many):
            self.fresh(number)
        self.clear()

    def fresh(self, number):
        own = {name: words[0] for name, (kind, words) in self.words.items() if kind == "cell"}
        self.workers[number] = ["", own]

    def clear(self):
        self.store = {name: words[0] for name, (kind, words) in self.words.items() if kind == "shared"}

    def block(self, group, head):
        start = self.lines.index("group " + group)
        lines = below(self.lines, start)
        return below(lines, lines.index(head)) if head in lines else []

    def do(self, number, lines):
        opened, own = self.workers[number]
        cells = {**own, **self.store}
        passed = done(lines, cells)
        self.workers[number] = [opened, {name: cells[name] for name in own}]
        self.store = {name: cells[name] for name in self.store}
        return passed

    def run(self, number, item):
        head = f"  check {item[0]} {item[1]}"
        place = self.lines.index(head)
        group = [line for line in self.lines[:place] if line.startswith("group ")][-1].split()[1]
        opened = self.workers[number][0]
        if opened != group:
            if opened:
                self.do(number, self.block(opened, "  close"))
            self.workers[number][0] = ""
            if not self.do(number, self.block(group, "  open")):
                return "skip"
            self.workers[number][0] = group
        return "pass" if self.do(number, self.block(group, head)) else "fail"

    def state(self):
        rows = tuple((opened, tuple(own.values())) for opened, own in self.workers)
        return rows, tuple(self.store.values())
