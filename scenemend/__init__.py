"""Scenemend: pictures of parts, drawn anew where they changed."""
