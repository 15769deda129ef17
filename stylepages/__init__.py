"""Stylepages: documents, style sheets and letters set to pages."""
