"""Shapetypes: types by what they allow."""
