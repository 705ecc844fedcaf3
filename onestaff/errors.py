"""The refusals: each is an error of a class of its own, straight under StaffError."""


class StaffError(ValueError):
    def __init__(self, text):
        ValueError.__init__(self, text)


class NoName(StaffError):
    def __init__(self, found):
        StaffError.__init__(self, "this is no name")
        self.found = found


class NoPlace(StaffError):
    def __init__(self, found):
        StaffError.__init__(self, "this is no place of the line")
        self.found = found


class NoTrain(StaffError):
    def __init__(self, found):
        StaffError.__init__(self, "this is no train")
        self.found = found


class NoTrains(StaffError):
    def __init__(self, found):
        StaffError.__init__(self, "these are no trains")
        self.found = found


class NoEnds(StaffError):
    def __init__(self, found):
        StaffError.__init__(self, "these are no ends at which the staffs could lie")
        self.found = found


class NoStretch(StaffError):
    def __init__(self, found):
        StaffError.__init__(self, "this is no stretch's number")
        self.found = found


class NoLong(StaffError):
    def __init__(self, found):
        StaffError.__init__(self, "this is no long stretch's number")
        self.found = found


class NoPlaces(StaffError):
    def __init__(self, found):
        StaffError.__init__(self, "these are no places")
        self.found = found


class NoStretches(StaffError):
    def __init__(self, found):
        StaffError.__init__(self, "these are no stretches")
        self.found = found


class NoLongs(StaffError):
    def __init__(self, found):
        StaffError.__init__(self, "these are no long stretches")
        self.found = found


class NoNumber(StaffError):
    def __init__(self, found):
        StaffError.__init__(self, "this is no number that is asked here")
        self.found = found


class NoThing(StaffError):
    def __init__(self, found):
        StaffError.__init__(self, "this is no thing by which trains go")
        self.found = found


class NoKind(StaffError):
    def __init__(self, found):
        StaffError.__init__(self, "this is no kind of word")
        self.found = found


class NoWord(StaffError):
    def __init__(self, found):
        StaffError.__init__(self, "no word under way has this number")
        self.found = found


class NoDeed(StaffError):
    def __init__(self, found):
        StaffError.__init__(self, "this is no deed")
        self.found = found


class NoWay(StaffError):
    def __init__(self, found):
        StaffError.__init__(self, "there is no such way")
        self.found = found


class NoUse(StaffError):
    def __init__(self, found):
        StaffError.__init__(self, "the place has no use for it")
        self.found = found


class NoBooks(StaffError):
    def __init__(self, found):
        StaffError.__init__(self, "these are no books")
        self.found = found


class NoRows(StaffError):
    def __init__(self, found):
        StaffError.__init__(self, "these are no rows")
        self.found = found


class NoMove(StaffError):
    def __init__(self, found):
        StaffError.__init__(self, "this is no move")
        self.found = found


class NoRuns(StaffError):
    def __init__(self, found):
        StaffError.__init__(self, "these are no runs")
        self.found = found


class NoRun(StaffError):
    def __init__(self, found):
        StaffError.__init__(self, "this is no run")
        self.found = found


class NoLine(StaffError):
    def __init__(self, found):
        StaffError.__init__(self, "this is no line that the desk knows")
        self.found = found


class NoState(StaffError):
    def __init__(self, found):
        StaffError.__init__(self, "there is no such state")
        self.found = found


class Twice(StaffError):
    def __init__(self, found):
        StaffError.__init__(self, "this name is there already")
        self.found = found


class NotHere(StaffError):
    def __init__(self, found):
        StaffError.__init__(self, "the train stands at no place")
        self.found = found


class NotIn(StaffError):
    def __init__(self, found):
        StaffError.__init__(self, "the train does not go in a stretch")
        self.found = found


class NotHeld(StaffError):
    def __init__(self, found):
        StaffError.__init__(self, "nothing lies held for the train")
        self.found = found


class NotHelped(StaffError):
    def __init__(self, found):
        StaffError.__init__(self, "the train is not helped")
        self.found = found


class Full(StaffError):
    def __init__(self, found):
        StaffError.__init__(self, "no road is free at the place")
        self.found = found


class Lacks(StaffError):
    def __init__(self, found):
        StaffError.__init__(self, "no such thing lies at the place")
        self.found = found


class Shut(StaffError):
    def __init__(self, found):
        StaffError.__init__(self, "the staff is locked")
        self.found = found


class Held(StaffError):
    def __init__(self, found):
        StaffError.__init__(self, "the thing is held for a train")
        self.found = found


class NotClear(StaffError):
    def __init__(self, found):
        StaffError.__init__(self, "not all trains are through")
        self.found = found


class NoTickets(StaffError):
    def __init__(self, found):
        StaffError.__init__(self, "the stretch has no tickets")
        self.found = found


class NoRight(StaffError):
    def __init__(self, found):
        StaffError.__init__(self, "there is no right")
        self.found = found


class NotShut(StaffError):
    def __init__(self, found):
        StaffError.__init__(self, "the staff is not locked")
        self.found = found


class Taken(StaffError):
    def __init__(self, found):
        StaffError.__init__(self, "the long staff is out of its box")
        self.found = found


class Boxed(StaffError):
    def __init__(self, found):
        StaffError.__init__(self, "the long staff is in its box")
        self.found = found


class Silent(StaffError):
    def __init__(self, found):
        StaffError.__init__(self, "there is no such word to say again")
        self.found = found


class TooMany(StaffError):
    def __init__(self, many):
        StaffError.__init__(self, "there are too many")
        self.many = many


class NoText(StaffError):
    def __init__(self, row):
        StaffError.__init__(self, "the text writes no such thing")
        self.row = row


class Gap(StaffError):
    def __init__(self, number):
        StaffError.__init__(self, "not just one entry has this number")
        self.number = number


class NotSo(StaffError):
    def __init__(self, number):
        StaffError.__init__(self, "no day could have this entry")
        self.number = number


class NoTrip(StaffError):
    def __init__(self, run):
        StaffError.__init__(self, "the train cannot begin this run")
        self.run = run


class NoStart(StaffError):
    def __init__(self):
        StaffError.__init__(self, "no day was begun")


class NoBack(StaffError):
    def __init__(self):
        StaffError.__init__(self, "there is nothing to take back")
