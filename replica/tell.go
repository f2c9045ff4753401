package replica

import (
	"hedgerow/accept"
	"hedgerow/api"
	"hedgerow/message"
)

// nobody is to whom nothing goes.
const nobody = -1

// peer asks whether a number is a peer's.
func (r *Replica) peer(i int) bool {
	_, ok := r.memory.Buffer.Acked(i)
	return ok
}

// Digest tells a peer what is known.
func (r *Replica) Digest(to int) ([]byte, api.Errno) {
	if err := r.ready(); err != api.OK {
		return nil, err
	}
	if !r.peer(to) {
		return nil, api.ErrNone
	}
	return r.tell(api.Message{Kind: api.MsgDigest, To: to})
}

// tell is the bytes of a message that tells what is known. What a peer was told must not be lost any more, and so all is synced.
func (r *Replica) tell(m api.Message) ([]byte, api.Errno) {
	r.disk.Sync()
	m.From, m.Known = r.self, r.memory.Known
	return message.Bytes(m)
}

// Receive takes a message.
func (r *Replica) Receive(b []byte) ([]byte, int, api.Errno) {
	if err := r.ready(); err != api.OK {
		return nil, nobody, err
	}
	m, err := message.Parse(b)
	if err != api.OK {
		return nil, nobody, err
	}
	if m.To != r.self || !r.peer(m.From) {
		return nil, nobody, api.ErrNone
	}
	if m.Kind == api.MsgDigest {
		return r.answer(m)
	}
	return nil, nobody, r.hear(m)
}

// answer is what goes back on a peer's digest, and to whom.
func (r *Replica) answer(digest api.Message) ([]byte, int, api.Errno) {
	r.memory.Buffer.Ack(digest.From, digest.Known)
	lacks := r.memory.Buffer.Lacks(digest.Known, api.MaxEvents)
	back, err := r.tell(api.Message{Kind: api.MsgDelta, To: digest.From, Events: lacks})
	return back, digest.From, err
}

// hear takes a peer's delta: all that it brings, or nothing.
func (r *Replica) hear(delta api.Message) api.Errno {
	taken, _, err := accept.All(r.memory.Known, delta.Events)
	if err != api.OK {
		return err
	}
	if err = r.takeIn(taken); err != api.OK {
		return err
	}
	return r.memory.Buffer.Ack(delta.From, delta.Known)
}
