"""Office procedures told as texts: cases are run by them, and the texts themselves are asked."""
