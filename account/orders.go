package account

import "container/heap"

// order is an open order. Its worth is its price times its quantity.
type order struct {
	number, side, qty, worth int
	end                      int // the time at which it ends
	at                       int // where it lies in the heap
}

// orders are the open orders of an account, and what they come to together.
type orders struct {
	byEnd    ending
	numbered map[int]*order
	qty      [2]int // by sides
	worth    int
}

func (s *orders) has(number int) bool {
	return s.numbered[number] != nil
}

func (s *orders) add(o *order) {
	heap.Push(&s.byEnd, o)
	s.numbered[o.number] = o
	s.qty[o.side] += o.qty
	s.worth += o.worth
}

// remove takes out an order that is there.
func (s *orders) remove(number int) {
	o := s.numbered[number]
	heap.Remove(&s.byEnd, o.at)
	delete(s.numbered, number)
	s.qty[o.side] -= o.qty
	s.worth -= o.worth
}

// end takes out the orders that end at this time or ahead of it: the top of the heap, as long as it is one of them.
func (s *orders) end(now int) {
	for len(s.byEnd) > 0 && s.byEnd[0].end <= now {
		s.remove(s.byEnd[0].number)
	}
}

// ending is a heap of orders for container/heap, the first to end on top.
type ending []*order

func (h ending) Len() int { return len(h) }

func (h ending) Less(i, j int) bool { return h[i].end < h[j].end }

func (h ending) Swap(i, j int) {
	h[i], h[j] = h[j], h[i]
	h[i].at, h[j].at = i, j
}

// Push lays an order, which heap.Push hands on, behind the others.
func (h *ending) Push(x any) {
	o := x.(*order)
	o.at = len(*h)
	*h = append(*h, o)
}

// Pop takes the last order, where heap.Pop and heap.Remove have put the one that they take out.
func (h *ending) Pop() any {
	last := len(*h) - 1
	o := (*h)[last]
	// The room behind the end is not to keep what was taken out.
	(*h)[last] = nil
	*h = (*h)[:last]
	return o
}
