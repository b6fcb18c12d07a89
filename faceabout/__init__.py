"""Faceabout: rows of waggons, turned about in stretches."""
