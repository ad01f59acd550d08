"""Programs of hands, made of four numbers [28]."""


def letters_by(number, many):
    return [((number // 3 + k) % many, number + k) for k in range(number % 3)]


def words_by(number):
    return [number] if number % 4 == 0 else []


def program_of(a, b, c, m, many):
    def does(hand, state, word):
        told = 0 if word is None else word
        number = (a * state + b * told + c + hand) % m
        return (number, letters_by(number, many), words_by(number))
    return does
