"""Worksward: a house that guards works. Everything is imported from the files of this folder."""
