package snap

import (
	"math"

	"hedgerow/api"
	"hedgerow/num"
	"hedgerow/store"
)

// most lets a reader read whatever has bytes: that a snapshot may not be is another error than that there is none.
const most = math.MaxInt

// Parse reads a snapshot.
func Parse(b []byte) (Snap, api.Errno) {
	r := num.Read(b)
	var s Snap
	s.Known = readVector(r)
	s.Items = readRow(r, readItem)
	s.Events = readRow(r, readEvent)
	if !r.Done() {
		return Snap{}, api.ErrForm
	}
	if err := Right(s); err != api.OK {
		return Snap{}, err
	}
	return s, api.OK
}

// readRow is the row whose bytes come next. If the reader fails, it means nothing, as does all that is read here; but it ends then, however many there ought to be.
func readRow[T any](r *num.Reader, readOne func(*num.Reader) T) []T {
	var l []T
	for range r.Num(most) {
		x := readOne(r)
		if r.Fail() {
			return nil
		}
		l = append(l, x)
	}
	return l
}

// readVector is the vector whose bytes come next.
func readVector(r *num.Reader) api.Vector {
	var v api.Vector
	for i := range v {
		v[i] = r.Num(most)
	}
	return v
}

// readItem is the item whose bytes come next.
func readItem(r *num.Reader) store.Item {
	var i store.Item
	i.Elem = readElem(r)
	i.Entries = readRow(r, readEntry)
	return i
}

// readEntry is the entry whose bytes come next.
func readEntry(r *num.Reader) store.Entry {
	var x store.Entry
	x.Dot = readDot(r)
	x.Value = readValue(r)
	return x
}

// readEvent is the event whose bytes come next, whatever it is: layer 6's Read wouldn't tell one that may not be from one that is cut.
func readEvent(r *num.Reader) api.Event {
	var e api.Event
	e.Dot = readDot(r)
	e.Past = readVector(r)
	e.Op = r.Num(most)
	e.Elem = readElem(r)
	e.Value = readValue(r)
	return e
}

// readDot is the dot whose bytes come next.
func readDot(r *num.Reader) api.Dot {
	var d api.Dot
	d.Replica = r.Num(most)
	d.Count = r.Num(most)
	return d
}

// readElem is the element whose bytes come next.
func readElem(r *num.Reader) api.Elem {
	var e api.Elem
	e.Kind = r.Num(most)
	e.A = r.Text(most)
	e.B = r.Text(most)
	e.C = r.Text(most)
	e.D = r.Text(most)
	return e
}

// readValue is the value whose bytes come next.
func readValue(r *num.Reader) api.Value {
	var v api.Value
	v.Kind = r.Num(most)
	v.Num = r.Signed()
	v.Text = r.Text(most)
	return v
}
