"""Mirrorstair: programs read by programs, level on level."""
