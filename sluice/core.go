package sluice

import (
	"sluice/api"
	"sluice/frame"
	"sluice/ring"
)

// late is an answer that found no free place in its client's ring.
type late struct {
	client int
	answer api.Answer
}

// Core takes a step of the core (P5).
func (g *Gate) Core() (int, api.Errno) {
	if g == nil {
		return 0, api.ErrNil
	}
	// Ahead of what it does: a step that finds nothing to do is one too.
	g.watch.Stepped()
	// The urgent lane is asked also while the core waits, so that nothing holds up a Kill.
	if t, ok := g.lanes[api.Urgent].Take(); ok {
		return g.rush(t), api.OK
	}
	if g.waiting != nil {
		return g.free(), api.OK
	}
	if t, ok := g.lanes[api.Common].Take(); ok {
		return g.serve(t), api.OK
	}
	return api.Idle, api.OK
}

func (g *Gate) rush(t ring.Taken) int {
	in := g.inboxes[t.Client]
	in.acks = append(in.acks, g.answer(api.Urgent, t))
	return api.Rushed
}

func (g *Gate) free() int {
	if !g.inboxes[g.waiting.client].answers.Lay(g.waiting.answer) {
		return api.Blocked
	}
	g.waiting = nil
	return api.Freed
}

func (g *Gate) serve(t ring.Taken) int {
	a := g.answer(api.Common, t)
	if !g.inboxes[t.Client].answers.Lay(a) {
		g.waiting = &late{client: t.Client, answer: a}
		return api.Blocked
	}
	return api.Served
}

// answer does what a frame says that was taken out of a lane.
func (g *Gate) answer(lane int, t ring.Taken) api.Answer {
	said := frame.Read(lane, len(g.accounts), t.Frame)
	return api.Answer{Place: t.Place, Code: g.do(said)}
}

func (g *Gate) do(said frame.Said) int {
	switch x := said.(type) {
	case frame.New:
		if g.watch.IsShut() {
			return api.Shut
		}
		return g.accounts[x.Account].Open(x, g.time)
	case frame.Cancel:
		return g.accounts[x.Account].Cancel(x.Number)
	case frame.Kill:
		g.accounts[x.Account].Stop()
	case frame.Unkill:
		g.accounts[x.Account].GoOn()
	case frame.Wrong:
		return x.Code
	}
	return api.Done
}
