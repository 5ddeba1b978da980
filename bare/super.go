package bare

import (
	"facade/api"
	"facade/dev"
)

// The bits of the word that tells how the processor stands.
const (
	interruptible = 1
	supervisor    = 2
)

// devices are the registers behind an instruction that asks the devices, or tells them something.
func devices(r api.Regs16, d *dev.Dev, now int64, in api.Instr) api.Regs16 {
	switch in.Op {
	case api.Out:
		d.Out(r[in.A])
	case api.In:
		r[in.A] = d.In()
	case api.Bwr:
		d.Put(r[in.A], r[in.B])
	case api.Brd:
		r[in.A] = d.Get(r[in.B])
	case api.Tmr:
		d.Set(now, r[in.A])
	}
	return r
}

// processor is the processor as an instruction leaves it that asks it how it stands, or makes it stand otherwise. Its
// PC stays.
func processor(c api.CPU, now int64, in api.Instr) api.CPU {
	switch in.Op {
	case api.Stv:
		c.TV = c.R[in.A]
	case api.Gtm:
		c.R[in.A] = uint32(now)
	case api.Gcs:
		c.R[in.A] = c.Cause
	case api.Gfa:
		c.R[in.A] = c.Addr
	case api.Cli:
		c.IE = false
	case api.Sti:
		c.IE = true
	case api.Gst:
		c.R[in.A] = supervisor
		if c.IE {
			c.R[in.A] += interruptible
		}
	case api.Sst:
		c.IE = c.R[in.A]%2 == 1
	}
	return c
}
