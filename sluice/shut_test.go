package sluice

import (
	"testing"

	"sluice/api"
)

func small(t *testing.T) *Gate {
	t.Helper()
	g, e := New(api.Config{Clients: 2, Common: 2, Urgent: 2, Answers: 2, Checks: 1, Accounts: []api.Limits{{Window: 1}}})
	if g == nil || e != api.OK {
		t.Fatalf("P3: New: error %d", e)
	}
	return g
}

func claimed(t *testing.T, g *Gate, client, lane, want int, wantErr api.Errno) {
	t.Helper()
	if n, e := g.Claim(client, lane); n != want || e != wantErr {
		t.Fatalf("P4: Claim(%d, %d) = %d, error %d, want %d, error %d", client, lane, n, e, want, wantErr)
	}
}

func filled(t *testing.T, g *Gate, client, lane, place int, want api.Errno) {
	t.Helper()
	if e := g.Publish(client, lane, place, "x"); e != want {
		t.Fatalf("P4: Publish(%d, %d, %d) = error %d, want %d", client, lane, place, e, want)
	}
}

func TestAGateThatIsNewIsOpen(t *testing.T) {
	g := small(t)
	if g.isShut() || g.isShut() {
		t.Error("P3: a new gate is shut")
	}
}

func TestNoPlaceIsClaimedOnceShut(t *testing.T) {
	g, other := small(t), small(t)
	claimed(t, g, 0, api.Common, 0, api.OK)
	claimed(t, g, 1, api.Urgent, 0, api.OK)
	claimed(t, g, 1, api.Urgent, 1, api.OK)
	close(g.shut)
	for range 3 {
		claimed(t, g, 0, api.Common, 0, api.ErrClosed)
		// The lane is full as well: that it is shut is named first.
		claimed(t, g, 0, api.Urgent, 0, api.ErrClosed)
		claimed(t, g, 2, 9, 0, api.ErrClient)
		claimed(t, g, 0, 9, 0, api.ErrLane)
	}
	claimed(t, other, 0, api.Common, 0, api.OK)
}

func TestPlacesAreFilledAlsoWhenShut(t *testing.T) {
	g := small(t)
	claimed(t, g, 0, api.Common, 0, api.OK)
	claimed(t, g, 1, api.Urgent, 0, api.OK)
	close(g.shut)
	filled(t, g, 1, api.Common, 0, api.ErrTicket)
	filled(t, g, 0, api.Common, 1, api.ErrTicket)
	filled(t, g, 2, 9, 0, api.ErrClient)
	filled(t, g, 0, 9, 0, api.ErrLane)
	filled(t, g, 0, api.Common, 0, api.OK)
	filled(t, g, 0, api.Common, 0, api.ErrTicket)
	filled(t, g, 1, api.Urgent, 0, api.OK)
}

// The numbers go on behind places that were taken, and these are not filled again.
func TestPlacesBehindThoseTaken(t *testing.T) {
	for _, lane := range []int{api.Common, api.Urgent} {
		g := small(t)
		claimed(t, g, 0, lane, 0, api.OK)
		claimed(t, g, 1, lane, 1, api.OK)
		filled(t, g, 0, lane, 0, api.OK)
		claimed(t, g, 0, lane, 0, api.ErrFull)
		if _, ok := g.lanes[lane].Take(); !ok {
			t.Fatal("a filled place is not taken")
		}
		filled(t, g, 0, lane, 0, api.ErrTicket)
		claimed(t, g, 0, lane, 2, api.OK)
		claimed(t, g, 1, lane, 0, api.ErrFull)
		filled(t, g, 0, lane, 0, api.ErrTicket)
		filled(t, g, 0, lane, 2, api.OK)
		filled(t, g, 1, lane, 1, api.OK)
	}
}
