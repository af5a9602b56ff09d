"""The world in each manner told once more, step by step, so that harms and benches are held to it."""

from tests.oracles import along, follow

MANNERS = ("sealed", "late", "early", "counted", "open")


class House:
    """A machine in a house of a manner, behind some steps; bad is the index of the first one that can't be done."""

    def __init__(self, machine, table, manner, steps=()):
        self.machine, self.table, self.manner = machine, table, manner
        self.count, self.mark, self.shelf = 0, None, [(0, None, (), 0)]
        self.stand = ("off",)
        self.heard, self.spoken, self.bad = [], [], None
        for index, step in enumerate(steps):
            if step not in self.steps():
                self.bad = index
                return
            self.do(step)

    def steps(self):
        """All steps that can be done now."""
        how = self.stand[0]
        if how == "off":
            return [("boot", note) for note in self.shelf]
        if how == "choice":
            state, _, _ = follow(self.machine, self.table, self.stand[1])
            return [("cut",)] + [("ask", option) for option in range(len(self.machine[state]))]
        more = {"mute": [], "sealed": [("turn",)], "ready": [("turn",)], "bare": [("seal",)]}
        return [("cut",)] + more[how]

    def allows(self, note):
        same_count, same_mark = note[0] == self.count, note[1] == self.mark
        return {"open": True, "counted": same_count}.get(self.manner, same_count and same_mark)

    def do(self, step):
        if step[0] == "cut":
            self.stand = ("off",)
        elif step[0] == "boot":
            self.stand = ("mute",)
            if self.allows(step[1]):
                self.come_to(step[1][2], step[1][3])
        elif step[0] == "ask":
            self.come_to(self.stand[1] + (step[1],), 0)
        elif step[0] == "turn" and self.manner == "late":
            _, life, done = self.stand
            self.count, self.mark = self.count + 1, self.row(life)[done]
            self.stand = ("bare", life, done + 1)
        elif step[0] == "turn":
            self.count, self.mark, life, done = self.stand[1]
            self.come_to(life, done)
        else:
            _, life, done = self.stand
            self.put((self.count, self.mark, life, done))
            self.come_to(life, done)

    def row(self, life):
        return self.table[follow(self.machine, self.table, life[:-1])[0]][life[-1]]

    def put(self, note):
        if note not in self.shelf:
            self.shelf.append(note)

    def come_to(self, life, done):
        lacking = len(self.row(life)) - done if life else 0
        if life and lacking == (1 if self.manner == "early" else 0):
            self.speak(self.count + lacking, life)
        if lacking == 0:
            self.stand = ("choice", life)
        elif self.manner == "late":
            self.stand = ("ready", life, done)
        else:
            self.stand = ("sealed", (self.count + 1, self.row(life)[done], life, done + 1))
            self.put(self.stand[1])

    def speak(self, number, life):
        state, _, _ = follow(self.machine, self.table, life[:-1])
        word = self.machine[state][life[-1]][1]
        if word is not None:
            self.heard.append((number, word))
            if life not in self.spoken:
                self.spoken.append(life)

    def harm(self):
        """The harm that is done here, the first that applies."""
        told = [follow(self.machine, self.table, life)[2] for life in self.spoken]
        if not all(along(one, other) for one in told for other in told):
            return "two lives"
        return None if any(self.allows(note) for note in self.shelf) else "dead"


def stories_within(machine, table, manner, most):
    """All stories of at most so many steps, the shorter ones first."""
    found = [()]
    for story in found:
        if len(story) < most:
            found.extend([story + (step,) for step in House(machine, table, manner, story).steps()])
    return found


def random_story(dice, machine, table, manner, length):
    """So many steps, of which cuts and boots with notes that don't fit are the rarer ones."""
    story, house = [], House(machine, table, manner)
    for _ in range(length):
        steps = house.steps()
        wished = [step for step in steps if step != ("cut",) and (step[0] != "boot" or house.allows(step[1]))]
        story.append(dice.choice(wished if wished and dice.random() < 0.8 else steps))
        house.do(story[-1])
    return tuple(story)
