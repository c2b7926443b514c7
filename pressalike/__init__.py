"""Pressalike: a typesetter whose edits, desks and styles are judged for all manuscripts."""
