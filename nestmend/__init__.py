"""Nestmend: brackets of several kinds mended."""
