"""Carryladder: which machines have one program of word instructions, right at all widths."""
