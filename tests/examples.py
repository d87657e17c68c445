"""Examples as the interface prints them, made into steps that a test can take."""

PROMPT = ">>> "


def steps(session):
    """The pairs of a statement and the line printed below it, None if there is none."""
    told = []
    for line in session.strip().split("\n"):
        if line.startswith(PROMPT):
            told.append((line[len(PROMPT):], None))
        else:
            statement, printed = told.pop()
            assert printed is None, line
            told.append((statement, line))
    return told


def shown(error):
    """An error as the interface prints it: its class with its attributes."""
    parts = [f"{name}={value!r}" for name, value in vars(error).items()]
    return f"raises {error.__class__.__name__}({', '.join(parts)})"


def printed_by(statement, names):
    """What a statement prints, None if nothing."""
    try:
        value = eval(compile(statement, "example", "eval"), names)
    except Exception as error:
        return shown(error)
    return None if value is None else repr(value)


def take(statement, names):
    """Run a statement of an example, and tell what it prints, None if nothing."""
    try:
        compile(statement, "example", "eval")
    except SyntaxError:
        exec(compile(statement, "example", "exec"), names)
        return None
    return printed_by(statement, names)
