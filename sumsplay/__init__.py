"""SUMSPLAY: games of two side by side."""
