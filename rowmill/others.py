"""The rows that ask, tell, and speak of the cause and of back."""

from rowmill.rows import Row, given_box, known_at


class Ask(Row):
    def __init__(self, a):
        self.a = a

    def told(self):
        return ("ask", self.a)

    def gives(self):
        return given_box(self.a)

    def known(self):
        return known_at("write", self.gives())


class Tell(Row):
    def __init__(self, a):
        self.a = a

    def told(self):
        return ("tell", self.a)

    def reads(self):
        return (self.a,)


class Why(Row):
    def __init__(self, a):
        self.a = a

    def told(self):
        return ("why", self.a)

    def gives(self):
        return given_box(self.a)

    def known(self):
        return known_at("write", self.gives())

    def alone(self):
        return True


class Where(Row):
    def __init__(self, a):
        self.a = a

    def told(self):
        return ("where", self.a)

    def gives(self):
        return given_box(self.a)

    def known(self):
        return known_at("write", self.gives())

    def alone(self):
        return True


class Aim(Row):
    def __init__(self, a):
        self.a = a

    def told(self):
        return ("aim", self.a)

    def reads(self):
        return (self.a,)

    def alone(self):
        return True


class Home(Row):
    def told(self):
        return ("home",)

    def alone(self):
        return True
