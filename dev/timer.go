package dev

// timer is when a timer rings: so far behind a time. It is not set, where after is 0. The two are kept apart: their sum
// may be a time that no int64 is.
type timer struct {
	from  int64
	after uint32
}

// due tells whether it is set, and now is not ahead of its time.
func (t timer) due(now int64) bool {
	if t.after == 0 || now < t.from {
		return false
	}
	// As words of 64 bits they go round, and so the difference is right, though the times may be further apart than an int64 tells.
	return uint64(now)-uint64(t.from) >= uint64(t.after)
}
