"""Endless rows woven and parted by programs that call themselves."""
