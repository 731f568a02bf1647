"""Argosy: boats refitted timber by timber, and which of them is which."""
