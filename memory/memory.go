// Package memory is what a replica has of events while it runs, and loses in a crash; a journal's records tell it again.
package memory

import (
	"hedgerow/accept"
	"hedgerow/api"
	"hedgerow/buffer"
	"hedgerow/event"
	"hedgerow/journal"
	"hedgerow/snap"
	"hedgerow/store"
	"hedgerow/vector"
)

// Kinds of records.
const (
	kindEvent = 1
	kindSnap  = 2
)

// Memory is a replica's; that of one that is stopped, if it is the zero Memory.
type Memory struct {
	Known  api.Vector
	Store  *store.Store
	Buffer *buffer.Buffer
}

// Recall is what a journal's records tell the replica self of n.
func Recall(n, self int, l []journal.Record) (Memory, api.Errno) {
	waiting := buffer.New(n, self)
	if waiting == nil {
		return Memory{}, api.ErrArg
	}
	m := Memory{Store: store.New(), Buffer: waiting}
	for i, r := range l {
		if !m.read(r, i == 0) {
			return Memory{}, api.ErrForm
		}
	}
	return m, api.OK
}

// read lets a record tell what it has; false: there is none of that kind, or it may not stand there.
func (m *Memory) read(r journal.Record, first bool) bool {
	switch r.Kind {
	case kindEvent:
		return m.readEvent(r.Data)
	case kindSnap:
		return first && m.readSnap(r.Data)
	}
	return false
}

// readEvent takes the event whose bytes these are, if it may come.
func (m *Memory) readEvent(b []byte) bool {
	e, err := event.Parse(b)
	if err != api.OK || accept.One(m.Known, e) != api.OK {
		return false
	}
	m.Take(e)
	return true
}

// readSnap puts what a snapshot's bytes tell in place of nothing.
func (m *Memory) readSnap(b []byte) bool {
	s, err := snap.Parse(b)
	if err != api.OK {
		return false
	}
	m.Known, m.Store = s.Known, snap.Store(s)
	for _, e := range s.Events {
		// The store has what is left of it already.
		m.Buffer.Add(e)
	}
	return true
}

// Take takes an event that may come.
func (m *Memory) Take(e api.Event) {
	m.Store.Do(e)
	m.Known = vector.Add(m.Known, e.Dot)
	m.Buffer.Add(e)
}

// Event is the record of an event.
func Event(e api.Event) journal.Record {
	return journal.Record{Kind: kindEvent, Data: event.Put(nil, e)}
}

// Snapshot is the record of all that there is.
func (m Memory) Snapshot() (journal.Record, api.Errno) {
	data, err := snap.Bytes(snap.Snap{Known: m.Known, Items: m.Store.All(), Events: m.Buffer.All()})
	if err != api.OK {
		return journal.Record{}, err
	}
	return journal.Record{Kind: kindSnap, Data: data}, api.OK
}
