"""Hideworth: hide and seek, the exact worth and the mixed plans of both, with papers."""
