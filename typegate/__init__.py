"""Typegate: classes that are judged before they run."""
