package stream

import (
	"bytes"

	"carrefour/api"
)

// mostWaits is how many bytes a Queue may be made for.
const mostWaits = 1 << 20

// Queue is bytes that wait to be sent: so many at most.
type Queue struct {
	most  int
	waits []byte
}

// NewQueue is an empty one.
func NewQueue(most int) (*Queue, api.Errno) {
	if most < 0 || most > mostWaits {
		return nil, api.ErrArg
	}
	return &Queue{most: most}, api.OK
}

// Put lets a message's bytes wait, all of them or none.
func (q *Queue) Put(b []byte) api.Errno {
	if q == nil {
		return api.ErrArg
	}
	if len(q.waits)+len(b) > q.most {
		return api.ErrQueue
	}
	q.waits = append(q.waits, b...)
	return api.OK
}

// Take is the first bytes that wait, so many at most: they wait no more.
func (q *Queue) Take(n int) []byte {
	if q == nil {
		return nil
	}
	n = max(0, min(n, len(q.waits)))
	out := bytes.Clone(q.waits[:n])
	// Put makes new room when this one is used up, so what was taken isn't kept for long.
	q.waits = q.waits[n:]
	return out
}

// Len is how many bytes wait.
func (q *Queue) Len() int {
	if q == nil {
		return 0
	}
	return len(q.waits)
}

// Clear lets nothing wait any more.
func (q *Queue) Clear() {
	if q != nil {
		q.waits = nil
	}
}
