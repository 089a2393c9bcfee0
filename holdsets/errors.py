"""The refusals, each a class of its own straight under WebError."""


class WebError(ValueError):
    def __init__(self, words=""):
        ValueError.__init__(self, words)


class NoPlace(WebError):
    def __init__(self):
        WebError.__init__(self, "this is no place, or are no places, of the web")


class NoHold(WebError):
    def __init__(self):
        WebError.__init__(self, "this is no such hold of the web")


class NoArrow(WebError):
    def __init__(self):
        WebError.__init__(self, "the web has no arrow")


class NoNumber(WebError):
    def __init__(self):
        WebError.__init__(self, "this is no such number")


class NoRow(WebError):
    def __init__(self):
        WebError.__init__(self, "this is no row that can be answered")


class NoWeb(WebError):
    def __init__(self, number):
        WebError.__init__(self, f"this makes no web: {number}")
        self.number = number


class Ringed(WebError):
    def __init__(self, ring):
        WebError.__init__(self, f"the web has a ring: {ring}")
        self.ring = ring


class NoText(WebError):
    def __init__(self, row):
        WebError.__init__(self, f"this text writes no web: row {row}")
        self.row = row


class TooGreat(WebError):
    def __init__(self, many, most):
        WebError.__init__(self, f"{many} are too many, the most are {most}")
        self.many = many
        self.most = most
