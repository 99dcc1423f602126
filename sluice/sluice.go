// Package sluice: a gate for orders, between rings: see DOC.md.
package sluice

import (
	"sluice/account"
	"sluice/api"
	"sluice/ring"
	"sluice/settings"
	"sluice/watch"
)

// Gate has rings, a core and a watch.
type Gate struct {
	inboxes  []*inbox // by clients
	accounts []*account.Account
	lanes    [2]*ring.Lane // by their numbers, api.Common and api.Urgent
	waiting  *late         // what the core waits with; nil, if it does not wait
	time     int           // how many ticks went by
	watch    *watch.Watch
}

// inbox has what is there for a client to fetch.
type inbox struct {
	answers *ring.Answers
	acks    []api.Answer // those not told yet
}

// New makes a gate (P3).
func New(c api.Config) (*Gate, api.Errno) {
	if !settings.MayBe(c) {
		return nil, api.ErrConfig
	}
	g := &Gate{watch: watch.New(c.Checks)}
	for range c.Clients {
		g.inboxes = append(g.inboxes, &inbox{answers: ring.NewAnswers(c.Answers)})
	}
	for _, limits := range c.Accounts {
		g.accounts = append(g.accounts, account.New(limits))
	}
	g.lanes[api.Common] = ring.NewLane(c.Common)
	g.lanes[api.Urgent] = ring.NewLane(c.Urgent)
	return g, api.OK
}

// Claim takes a place in a lane (P4).
func (g *Gate) Claim(client int, lane int) (int, api.Errno) {
	if e := g.checkLane(client, lane); e != api.OK {
		return 0, e
	}
	if g.watch.IsShut() {
		return 0, api.ErrClosed
	}
	place, ok := g.lanes[lane].Claim(client)
	if !ok {
		return 0, api.ErrFull
	}
	return place, api.OK
}

// Publish fills a place (P4).
func (g *Gate) Publish(client int, lane int, place int, frame string) api.Errno {
	if e := g.checkLane(client, lane); e != api.OK {
		return e
	}
	// The gate may be shut: what was claimed ahead of that is still filled.
	if !g.lanes[lane].Fill(client, place, frame) {
		return api.ErrTicket
	}
	return api.OK
}

// checkLane finds the errors that Claim and Publish name first, in their order.
func (g *Gate) checkLane(client int, lane int) api.Errno {
	if e := g.checkClient(client); e != api.OK {
		return e
	}
	if lane < 0 || lane >= len(g.lanes) {
		return api.ErrLane
	}
	return api.OK
}

// checkClient finds the errors that every call of a client names first, in their order.
func (g *Gate) checkClient(client int) api.Errno {
	switch {
	case g == nil:
		return api.ErrNil
	case client < 0 || client >= len(g.inboxes):
		return api.ErrClient
	}
	return api.OK
}

// Poll takes a client's oldest answer (P5).
func (g *Gate) Poll(client int) (api.Answer, api.Errno) {
	if e := g.checkClient(client); e != api.OK {
		return api.Answer{}, e
	}
	a, ok := g.inboxes[client].answers.Poll()
	if !ok {
		return api.Answer{}, api.ErrEmpty
	}
	return a, api.OK
}

// Acks takes what is told of a client's urgent frames (P5).
func (g *Gate) Acks(client int) ([]api.Answer, api.Errno) {
	if e := g.checkClient(client); e != api.OK {
		return nil, e
	}
	in := g.inboxes[client]
	told := in.acks
	// The list is the caller's now, its spare room too: the next ack begins another.
	in.acks = nil
	return told, api.OK
}

// Tick lets time go on (P7).
func (g *Gate) Tick() api.Errno {
	if g == nil {
		return api.ErrNil
	}
	g.time++
	for _, a := range g.accounts {
		a.End(g.time)
	}
	g.watch.Ticked()
	return api.OK
}

// Watch looks whether the core stands still (P7).
func (g *Gate) Watch() (bool, api.Errno) {
	if g == nil {
		return false, api.ErrNil
	}
	g.watch.Look()
	return g.watch.IsShut(), api.OK
}
