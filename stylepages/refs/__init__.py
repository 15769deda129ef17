"""The references: assignments of forms to them."""
