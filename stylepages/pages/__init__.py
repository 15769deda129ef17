"""The pages: galleys and how they are broken."""
