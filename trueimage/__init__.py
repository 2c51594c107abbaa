"""Trueimage: a compiler whose images do exactly what the program means."""
