"""Tables in pieces, of which only facts are known until they are read."""
