package check

import "facade/api"

// signals are what may interrupt the machine. It doesn't tell them, so they are kept here: how many keys wait, and when
// the timer rings.
type signals struct {
	keys  int
	rings int64 // 0: never
}

// wait tells whether one does.
func (s *signals) wait(now int64) bool { return s.due(now) || s.keys > 0 }

// due tells whether the timer rings.
func (s *signals) due(now int64) bool { return s.rings != 0 && now >= s.rings }

// follow makes the signals those behind a deed. The timer is ahead of the keys: if it rings, it was what interrupted.
func (s *signals) follow(d deed) {
	if d.interrupted && s.due(d.now) {
		s.rings = 0
	}
	switch d.in.Op {
	case api.In:
		s.keys = max(s.keys-1, 0)
	case api.Tmr:
		s.rings = 0
		if after := d.cpu.R[d.in.A]; after != 0 {
			s.rings = d.now + int64(after)
		}
	}
}
