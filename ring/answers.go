package ring

import "sluice/api"

// Answers is a client's ring of answers: the core lays them down, the client polls them in the same order.
type Answers struct {
	slots  []api.Answer
	laid   int // how many answers were laid down
	polled int // how many of these were polled
}

// NewAnswers makes a ring of so many places, a power of two; it is empty.
func NewAnswers(size int) *Answers {
	return &Answers{slots: make([]api.Answer, size)}
}

// Lay lays an answer down, if there is a free place.
func (r *Answers) Lay(a api.Answer) bool {
	if r.laid-r.polled >= len(r.slots) {
		return false
	}
	*r.slotOf(r.laid) = a
	r.laid++
	return true
}

// Poll takes the oldest answer out, if there is one; its place is free then.
func (r *Answers) Poll() (api.Answer, bool) {
	if r.polled == r.laid {
		return api.Answer{}, false
	}
	a := *r.slotOf(r.polled)
	r.polled++
	return a, true
}

func (r *Answers) slotOf(n int) *api.Answer {
	return &r.slots[n&(len(r.slots)-1)]
}
