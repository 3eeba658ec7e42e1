"""Closed threads among nails on a sheet, told by counts."""
