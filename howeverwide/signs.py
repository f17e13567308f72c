"""The signs between the two parts of expressions and claims in texts."""

PAIRED = {
    "plus": " + ",
    "minus": " - ",
    "times": " * ",
    "both": " & ",
    "either": " | ",
    "unlike": " ^ ",
    "up": " << ",
    "down": " >> ",
}
COMPARED = {"same": " = ", "below": " < ", "under": " under "}
