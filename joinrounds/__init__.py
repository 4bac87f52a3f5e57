"""Joinrounds: joining all beginnings of a row in rounds."""
