package dev

import "facade/api"

// line is keys that wait, in a ring: the first at first, the others behind it, round the array's end.
type line struct {
	keys         [api.MaxKeys]uint32
	first, count int
}

// push puts a key behind the last one. False, and nothing is done, if there is no room.
func (l *line) push(key uint32) bool {
	if l.count == len(l.keys) {
		return false
	}
	l.keys[(l.first+l.count)%len(l.keys)] = key
	l.count++
	return true
}

// pop takes the first key away; 0, if there is none.
func (l *line) pop() uint32 {
	if l.count == 0 {
		return 0
	}
	key := l.keys[l.first]
	l.first = (l.first + 1) % len(l.keys)
	l.count--
	return key
}
