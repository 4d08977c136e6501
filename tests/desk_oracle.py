"""What the document says of the lines of a desk, done on a plain dict of values and a hall, by the parts themselves."""

from peekproof.costs import Costs
from peekproof.dearest import dearest
from peekproof.errors import BadBoard, BadStudy, BadWatch, Nothing
from peekproof.boards import Board
from peekproof.forms import wrongest
from peekproof.greatest import greatest
from peekproof.halls import Hall
from peekproof.late import Late
from peekproof.leads import lead
from peekproof.least import least
from peekproof.lost import Lost
from peekproof.misread import misread
from peekproof.nests import flattened, nested
from peekproof.ratios import Ratio
from peekproof.reader import CLASSES, value_of
from peekproof.shapes import shape_of
from peekproof.soonest import soonest
from peekproof.studies import Study
from peekproof.sure import sure
from peekproof.ties import tied
from peekproof.twice import Doubled
from peekproof.watches import Watch
from peekproof.within import within

# For each line the places of the words that are names of values kept, and whether a hall is needed.
NEEDS = {"drop": [1], "study": [2], "nest": [2], "flat": [2], "misread": [2, 3], "lose": [2], "repeat": [2], "delay": [2], "open": [1],
         "turn": [1], "show": [1], "after": [1], "sure": [1], "greatest": [1], "worth": [1], "least": [1], "dearest": [1], "soonest": [1],
         "shape": [1], "form": [1], "worst": [1], "within": [1, 2], "lead": [1, 2]}
PAIRS = {"study": 3, "nest": 3, "flat": 3, "open": 2, "lead": 3}
HALLS = ("see", "stop", "back", "again", "turn", "fear", "peak", "hope", "likely", "story", "lasting", "lit", "place", "choices", "would")
DEEDS = ("keep", "drop", "study", "nest", "flat", "misread", "lose", "repeat", "delay", "open", "see", "stop", "back", "again", "turn")


class Plain:
    """A desk as a dict, a hall and a list of lines."""

    def __init__(self):
        self.values, self.hall, self.lines = {}, None, []

    def answer(self, line):
        """The answer to a line of the tables; what is raised leaves this as it is but for the hall."""
        words = line.split(" ")
        first = words[0]
        for place in NEEDS.get(first, []):
            if words[place] not in self.values:
                raise Nothing()
        told = {}
        if first in PAIRS:
            told = dict(zip(words[PAIRS[first]::2], words[PAIRS[first] + 1::2]))
            if any(name not in self.values for name in told.values()):
                raise Nothing()
            told = {one: self.values[other] for one, other in told.items()}
        if first in HALLS and self.hall is None:
            raise Nothing()
        found = self.do(first, words, told) if first in DEEDS else self.ask(first, words, told)
        if first in DEEDS:
            self.lines.append(line)
        return found

    def value(self, word):
        return self.values[word]

    def do(self, first, words, told):
        if first in ("see", "stop", "back", "again", "turn"):
            if first == "see":
                return self.hall.see(words[1], words[2])
            if first == "turn":
                self.hall.change(self.value(words[1]))
            else:
                getattr(self.hall, first)(*words[1:])
            return str(self.hall.fear)
        if first == "open":
            self.hall = Hall(list(told.items()), self.value(words[1]))
            return str(self.hall.fear)
        if first == "drop":
            del self.values[words[1]]
            return "ok"
        if first == "keep":
            made = value_of(words[2], " ".join(words[3:]))
        elif first == "misread":
            made = misread(self.value(words[2]), self.value(words[3]))
        elif first in ("lose", "repeat", "delay"):
            made = {"lose": Lost, "repeat": Doubled, "delay": Late}[first](self.value(words[2]), int(words[3]))
        else:
            made = {"study": Study, "nest": nested, "flat": flattened}[first](self.value(words[2]), told)
        self.values[words[1]] = made
        return "ok"

    def ask(self, first, words, told):
        if first == "names":
            return " ".join(sorted(self.values)) or "-"
        if first in ("fear", "peak", "story"):
            return str(getattr(self.hall, first))
        if first in ("hope", "likely"):
            return str(getattr(self.hall, first)())
        if first == "lasting":
            return "endless" if self.hall.lasting() is None else str(self.hall.lasting())
        if first == "lit":
            return "yes" if self.hall.is_lit else "no"
        if first == "place":
            return self.hall.place(words[1])
        if first == "choices":
            return " ".join(self.hall.choices(words[1])) or "-"
        if first == "would":
            steps = [(name, None if sign == "-" else sign) for name, sign in zip(words[1::2], words[2::2])]
            return " ".join(map(str, self.hall.would(*steps)))
        if first == "tied":
            return str(tied(int(words[1]), self.ratios(words)).number)
        return self.ask_value(first, self.value(words[1]), words, told)

    def ratios(self, words):
        return {name: Ratio.read(word) for name, word in zip(words[2::2], words[3::2])}

    def ask_value(self, first, value, words, told):
        if first == "show":
            return str(value)
        if first == "after":
            if not isinstance(value, Watch):
                raise BadWatch("watch")
            return value.after(words[2:])
        if first == "form":
            if not isinstance(value, Board):
                raise BadBoard("board")
            return str(value(self.ratios(words)))
        if first == "worst":
            return str(wrongest(value, self.ratios(words)).number)
        if first == "within":
            paper = within(value, self.value(words[2]))
            return "yes" if paper else " ".join(["row", *paper.row])
        if first == "lead":
            return str(lead(value, self.value(words[2]), told).number)
        if first == "worth":
            return str(greatest(value, self.ratios(words)).number)
        if first == "shape":
            return " / ".join(" ".join(map(str, corner)) for corner in shape_of(value).corners)
        if not isinstance(value, Study):
            raise BadStudy("study")
        if first == "dearest":
            paper = dearest(value, Costs.each_trial(value.watch))
            return str(paper.number) if paper else "endless"
        paper = {"sure": sure, "greatest": greatest, "least": least, "soonest": soonest}[first](value)
        if paper.word == "trap":
            return " ".join(["trap", *paper.row])
        if paper.word == "seldom":
            return f"seldom {dict(paper.purse)[value.watch.first]}"
        return "yes" if first == "sure" else str(paper.number)


assert len(CLASSES) == 7
