"""Tables whose rows refer to rows, and strikes of rows that are done in pieces."""
