package snap

import (
	"slices"

	"hedgerow/api"
	"hedgerow/event"
	"hedgerow/num"
	"hedgerow/store"
)

// Bytes are a snapshot's.
func Bytes(s Snap) ([]byte, api.Errno) {
	if err := Right(s); err != api.OK {
		return nil, err
	}
	return slices.Concat(layVector(s.Known), layRow(s.Items, layItem), layRow(s.Events, layEvent)), api.OK
}

// layRow is a row's bytes: how many there are, and those of each one. Each one's are laid by themselves, since putting behind all that came ahead would copy all of it.
func layRow[T any](l []T, layOne func(T) []byte) []byte {
	b := num.Put(nil, len(l))
	for _, x := range l {
		b = append(b, layOne(x)...)
	}
	return b
}

// layVector is a vector's bytes: its length isn't laid, being always the same.
func layVector(v api.Vector) []byte {
	var b []byte
	for _, n := range v {
		b = num.Put(b, n)
	}
	return b
}

// layItem is an item's bytes.
func layItem(i store.Item) []byte { return append(layElem(i.Elem), layRow(i.Entries, layEntry)...) }

// layElem is an element's bytes.
func layElem(e api.Elem) []byte {
	b := num.Put(nil, e.Kind)
	b = num.Text(b, e.A)
	b = num.Text(b, e.B)
	b = num.Text(b, e.C)
	return num.Text(b, e.D)
}

// layEntry is an entry's bytes.
func layEntry(x store.Entry) []byte {
	b := num.Put(nil, x.Dot.Replica)
	b = num.Put(b, x.Dot.Count)
	b = num.Put(b, x.Value.Kind)
	b = num.Signed(b, x.Value.Num)
	return num.Text(b, x.Value.Text)
}

// layEvent is an event's bytes.
func layEvent(e api.Event) []byte { return event.Put(nil, e) }
