"""Queryheld: identities of query languages, decided for all tables."""
