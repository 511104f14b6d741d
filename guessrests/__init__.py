"""Guessrests: when guesses from told things come to rest."""
