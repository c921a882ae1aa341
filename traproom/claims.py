"""What has to be nowhere less than 0 so that a rule is kept: quadratics made of those of cases."""


def above(quadratic, bound):
    """Return the quadratic less the bound."""
    squares, (coefficients, constant) = quadratic
    return (squares, (coefficients, constant - bound))


def below(quadratic, bound):
    """Return the bound less the quadratic."""
    squares, (coefficients, constant) = quadratic
    turned = tuple([tuple([-factor for factor in row]) for row in squares])
    return (turned, (tuple([-factor for factor in coefficients]), bound - constant))
