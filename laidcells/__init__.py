"""Laidcells: gates laid in rows and fields, right at every width."""
