"""Foldednets: places of a net that are folded onto others, in any order."""
