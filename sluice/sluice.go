// Package sluice: a gate for orders, between rings: see DOC.md.
package sluice

import (
	"sluice/api"
	"sluice/ring"
	"sluice/settings"
)

// Gate has rings, a core and a watch.
type Gate struct {
	clients int
	lanes   [2]*ring.Lane // by their numbers, api.Common and api.Urgent
	shut    chan struct{} // closed when the gate is shut; nothing is ever sent
}

// New makes a gate (P3).
func New(c api.Config) (*Gate, api.Errno) {
	if !settings.MayBe(c) {
		return nil, api.ErrConfig
	}
	g := &Gate{clients: c.Clients, shut: make(chan struct{})}
	g.lanes[api.Common] = ring.NewLane(c.Common)
	g.lanes[api.Urgent] = ring.NewLane(c.Urgent)
	return g, api.OK
}

// Claim takes a place in a lane (P4).
func (g *Gate) Claim(client int, lane int) (int, api.Errno) {
	if e := g.check(client, lane); e != api.OK {
		return 0, e
	}
	if g.isShut() {
		return 0, api.ErrClosed
	}
	place, ok := g.lanes[lane].Claim(client)
	if !ok {
		return 0, api.ErrFull
	}
	return place, api.OK
}

// Publish fills a place (P4).
func (g *Gate) Publish(client int, lane int, place int, frame string) api.Errno {
	if e := g.check(client, lane); e != api.OK {
		return e
	}
	// The gate may be shut: what was claimed ahead of that is still filled.
	if !g.lanes[lane].Fill(client, place, frame) {
		return api.ErrTicket
	}
	return api.OK
}

// check finds the errors that Claim and Publish name first, in their order.
func (g *Gate) check(client int, lane int) api.Errno {
	switch {
	case g == nil:
		return api.ErrNil
	case client < 0 || client >= g.clients:
		return api.ErrClient
	case lane < 0 || lane >= len(g.lanes):
		return api.ErrLane
	}
	return api.OK
}

func (g *Gate) isShut() bool {
	select {
	case <-g.shut:
		return true
	default:
		return false
	}
}

// Core takes a step of the core (P5).
func (g *Gate) Core() (int, api.Errno) { return 0, api.OK }

// Poll takes a client's oldest answer (P5).
func (g *Gate) Poll(client int) (api.Answer, api.Errno) { return api.Answer{}, api.OK }

// Acks takes what is told of a client's urgent frames (P5).
func (g *Gate) Acks(client int) ([]api.Answer, api.Errno) { return nil, api.OK }

// Tick lets time go on (P7).
func (g *Gate) Tick() api.Errno { return api.OK }

// Watch looks whether the core stands still (P7).
func (g *Gate) Watch() (bool, api.Errno) { return false, api.OK }
