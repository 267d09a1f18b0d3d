"""One recipe on the way to its worth, and what it reads there (promises 7 and 8)."""


def joined(kind, r, s):
    if kind == "plus":
        return r + s
    if kind == "minus":
        return r - s
    if kind == "times":
        return r * s
    return max(r, s)


# One recipe on the way to its worth. It stops where a name is not known and goes on from there later,
# so nothing is reckoned twice; and it keeps its own list of what is to do, so no depth is too deep.
# Beside recipes that list has steps behind them: ("join", kind), ("branch", s, t), ("among", names).
class Reckoning:
    def __init__(self, r):
        self.todo = [r]
        self.found = []
        self.reads = {}

    # Goes on as far as the known worths lead: to the first name lacking, or to the end, None.
    def lacking(self, known):
        while self.todo:
            step = self.todo.pop()
            if step[0] != "read":
                self.go_on(step)
            elif step[1] in known:
                self.reads[step[1]] = known[step[1]]
                self.found.append(known[step[1]])
            else:
                self.todo.append(step)
                return step[1]
        return None

    # What is put into todo last is done first: r ahead of s, and the step behind them at the end.
    def go_on(self, step):
        kind = step[0]
        if kind == "number":
            self.found.append(step[1])
        elif kind == "pick":
            self.todo.extend([("branch", step[2], step[3]), step[1]])
        elif kind == "choose":
            self.todo.extend([("among", step[2]), step[1]])
        elif kind == "branch":
            self.todo.append(step[1] if self.found.pop() > 0 else step[2])
        elif kind == "among":
            names = step[1]
            self.todo.append(("read", names[self.found.pop() % len(names)]))
        elif kind == "join":
            s = self.found.pop()
            r = self.found.pop()
            self.found.append(joined(step[1], r, s))
        else:
            self.todo.extend([("join", kind), step[2], step[1]])
