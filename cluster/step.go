package cluster

import "hedgerow/api"

// deed is what a kind of steps does, and whether it is of a replica R.
type deed struct {
	do        func(*Cluster, api.Step) api.Errno
	ofReplica bool
}

// deeds tells what each kind does; of what is no kind there is nothing to do.
func deeds() [api.StepSync + 1]deed {
	return [...]deed{
		api.StepWrite:   {(*Cluster).write, true},
		api.StepTick:    {(*Cluster).tick, true},
		api.StepDeliver: {(*Cluster).deliver, false},
		api.StepDrop:    {(*Cluster).drop, false},
		api.StepDouble:  {(*Cluster).double, false},
		api.StepTurn:    {(*Cluster).turn, false},
		api.StepCrash:   {(*Cluster).crash, true},
		api.StepRecover: {(*Cluster).restart, true},
		api.StepCompact: {(*Cluster).compact, true},
		api.StepSpoil:   {(*Cluster).spoil, true},
		api.StepSync:    {(*Cluster).sync, true},
	}
}

// Do does a step.
func (c *Cluster) Do(s api.Step) api.Errno {
	table := deeds()
	if c == nil || s.Kind < 0 || s.Kind >= len(table) {
		return api.ErrArg
	}
	d := table[s.Kind]
	switch {
	case d.do == nil:
		return api.ErrArg
	case d.ofReplica && c.Replica(s.R) == nil:
		return api.ErrNone
	}
	return d.do(c, s)
}

// Run does all.
func (c *Cluster) Run(l []api.Step) []api.Errno {
	out := make([]api.Errno, 0, len(l))
	for _, s := range l {
		out = append(out, c.Do(s))
	}
	return out
}

// write lets R write, and keeps what it was told.
func (c *Cluster) write(s api.Step) api.Errno {
	events, err := c.Replica(s.R).Write(s.Changes)
	for _, e := range events {
		c.told = append(c.told, e.Dot)
	}
	return err
}

// tick sends R's digest to S. A digest syncs, and a step that comes to an error changes nothing: so where there would be one, but no room for it, none is made.
func (c *Cluster) tick(s api.Step) api.Errno {
	from := c.Replica(s.R)
	if _, peer := from.Acked(s.S); peer && c.Flight() >= api.MaxFlight {
		return api.ErrFull
	}
	digest, err := from.Digest(s.S)
	if err != api.OK {
		return err
	}
	return c.way.Send(s.S, digest)
}

// deliver takes a parcel out, and lets whom it is to receive it.
func (c *Cluster) deliver(s api.Step) api.Errno {
	p, err := c.way.Take(s.I)
	if err != api.OK {
		return err
	}
	back, to, err := c.Replica(p.To).Receive(p.Bytes)
	if err != api.OK || to < 0 {
		return err
	}
	return c.way.Send(to, back)
}

// drop takes a parcel out.
func (c *Cluster) drop(s api.Step) api.Errno {
	_, err := c.way.Take(s.I)
	return err
}

// double lets a parcel come twice.
func (c *Cluster) double(s api.Step) api.Errno { return c.way.Double(s.I) }

// turn turns a byte of a parcel.
func (c *Cluster) turn(s api.Step) api.Errno { return c.way.Turn(s.I, s.At, s.By) }

// crash stops R.
func (c *Cluster) crash(s api.Step) api.Errno { return c.Replica(s.R).Crash(s.Keep, s.At, s.By) }

// restart lets R run again, with what its disk tells.
func (c *Cluster) restart(s api.Step) api.Errno { return c.Replica(s.R).Recover() }

// compact lets R's disk have a snapshot alone.
func (c *Cluster) compact(s api.Step) api.Errno { return c.Replica(s.R).Compact() }

// spoil turns a byte of R's disk.
func (c *Cluster) spoil(s api.Step) api.Errno { return c.Replica(s.R).Spoil(s.At, s.By) }

// sync syncs R's disk.
func (c *Cluster) sync(s api.Step) api.Errno { return c.Replica(s.R).Sync() }
