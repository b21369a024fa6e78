"""Words parted by patterns: lists changed, needless patterns, margins, words put together."""
