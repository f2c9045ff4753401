package event

import (
	"math"

	"hedgerow/api"
	"hedgerow/num"
)

// most lets a reader read whatever has bytes: that an event may not be is another error than that there is none.
const most = math.MaxInt

// Read is the next event.
func Read(r *num.Reader) (api.Event, bool) {
	e := next(r)
	if r.Fail() || Right(e) != api.OK {
		return api.Event{}, false
	}
	return e, true
}

// Parse reads an event.
func Parse(b []byte) (api.Event, api.Errno) {
	r := num.Read(b)
	e := next(r)
	if !r.Done() {
		return api.Event{}, api.ErrForm
	}
	if err := Right(e); err != api.OK {
		return api.Event{}, err
	}
	return e, api.OK
}

// next is the event whose bytes come next, whatever it is; if the reader failed, it means nothing.
func next(r *num.Reader) api.Event {
	var e api.Event
	e.Dot.Replica = r.Num(most)
	e.Dot.Count = r.Num(most)
	for i := range e.Past {
		e.Past[i] = r.Num(most)
	}
	e.Op = r.Num(most)
	e.Elem.Kind = r.Num(most)
	e.Elem.A = r.Text(most)
	e.Elem.B = r.Text(most)
	e.Elem.C = r.Text(most)
	e.Elem.D = r.Text(most)
	e.Value.Kind = r.Num(most)
	e.Value.Num = r.Signed()
	e.Value.Text = r.Text(most)
	return e
}
