// Package ring: a lane is a ring of places, which clients claim and fill and the core takes in their order; a ring of answers is what the core lays down for a client.
package ring

// Lane is a ring of places. Its places are numbered on without end; a place and the one a whole ring behind it share a slot.
type Lane struct {
	slots   []slot
	claimed int // how many places were claimed: the number of the next one
	taken   int // how many of these the core took: the number of its next one
}

type slot struct {
	client int
	filled bool
	frame  string
}

// Taken is what the core takes out of a lane: a place, whose it was, and its frame.
type Taken struct {
	Place  int
	Client int
	Frame  string
}

// NewLane makes a lane of so many places, a power of two; none is claimed.
func NewLane(size int) *Lane {
	return &Lane{slots: make([]slot, size)}
}

// Claim gives the client the next place, if one is free.
func (l *Lane) Claim(client int) (int, bool) {
	if l.claimed-l.taken >= len(l.slots) {
		return 0, false
	}
	place := l.claimed
	l.slotOf(place).client = client
	l.claimed++
	return place, true
}

// Fill lays the frame into a place, if the client has claimed it and not filled it yet.
func (l *Lane) Fill(client int, place int, frame string) bool {
	// A place that was taken had been filled, and its slot may be another place's by now.
	if place < l.taken || place >= l.claimed {
		return false
	}
	s := l.slotOf(place)
	if s.client != client || s.filled {
		return false
	}
	s.filled, s.frame = true, frame
	return true
}

// Take takes the next place out, if it is filled; its slot can be claimed again then.
func (l *Lane) Take() (Taken, bool) {
	s := l.slotOf(l.taken)
	if !s.filled {
		return Taken{}, false
	}
	t := Taken{Place: l.taken, Client: s.client, Frame: s.frame}
	// Not filled, for the place that is claimed here next; and its frame is let go.
	*s = slot{}
	l.taken++
	return t, true
}

func (l *Lane) slotOf(place int) *slot {
	return &l.slots[place&(len(l.slots)-1)]
}
