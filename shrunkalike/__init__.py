"""Books of rules that shrink texts, and every linear question about the meanings of all texts."""
