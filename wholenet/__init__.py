"""Small nets trained and decided in whole numbers."""
