"""Riverkeeps: things that float from town to town and what each town keeps."""
