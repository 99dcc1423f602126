package sluice

import (
	"strings"
	"testing"

	"sluice/api"
)

func small(t *testing.T) *Gate {
	t.Helper()
	g, e := New(api.Config{Clients: 2, Common: 2, Urgent: 2, Answers: 2, Checks: 1, Accounts: []api.Limits{{Window: 1}}})
	if g == nil || e != api.OK {
		t.Fatalf("P3: New: error %d", e)
	}
	return g
}

func claimed(t *testing.T, g *Gate, client, lane, want int, wantErr api.Errno) {
	t.Helper()
	if n, e := g.Claim(client, lane); n != want || e != wantErr {
		t.Fatalf("P4: Claim(%d, %d) = %d, error %d, want %d, error %d", client, lane, n, e, want, wantErr)
	}
}

func filled(t *testing.T, g *Gate, client, lane, place int, want api.Errno) {
	t.Helper()
	if e := g.Publish(client, lane, place, "x"); e != want {
		t.Fatalf("P4: Publish(%d, %d, %d) = error %d, want %d", client, lane, place, e, want)
	}
}

func TestAGateThatIsNewIsOpen(t *testing.T) {
	g := small(t)
	if g.isShut() || g.isShut() {
		t.Error("P3: a new gate is shut")
	}
}

func TestNoPlaceIsClaimedOnceShut(t *testing.T) {
	g, other := small(t), small(t)
	claimed(t, g, 0, api.Common, 0, api.OK)
	claimed(t, g, 1, api.Urgent, 0, api.OK)
	claimed(t, g, 1, api.Urgent, 1, api.OK)
	close(g.shut)
	for range 3 {
		claimed(t, g, 0, api.Common, 0, api.ErrClosed)
		// The lane is full as well: that it is shut is named first.
		claimed(t, g, 0, api.Urgent, 0, api.ErrClosed)
		claimed(t, g, 2, 9, 0, api.ErrClient)
		claimed(t, g, 0, 9, 0, api.ErrLane)
	}
	claimed(t, other, 0, api.Common, 0, api.OK)
}

func TestPlacesAreFilledAlsoWhenShut(t *testing.T) {
	g := small(t)
	claimed(t, g, 0, api.Common, 0, api.OK)
	claimed(t, g, 1, api.Urgent, 0, api.OK)
	close(g.shut)
	filled(t, g, 1, api.Common, 0, api.ErrTicket)
	filled(t, g, 0, api.Common, 1, api.ErrTicket)
	filled(t, g, 2, 9, 0, api.ErrClient)
	filled(t, g, 0, 9, 0, api.ErrLane)
	filled(t, g, 0, api.Common, 0, api.OK)
	filled(t, g, 0, api.Common, 0, api.ErrTicket)
	filled(t, g, 1, api.Urgent, 0, api.OK)
}

// The numbers go on behind places that were taken, and these are not filled again.
func TestPlacesBehindThoseTaken(t *testing.T) {
	for _, lane := range []int{api.Common, api.Urgent} {
		g := small(t)
		claimed(t, g, 0, lane, 0, api.OK)
		claimed(t, g, 1, lane, 1, api.OK)
		filled(t, g, 0, lane, 0, api.OK)
		claimed(t, g, 0, lane, 0, api.ErrFull)
		if n, e := g.Core(); n != map[int]int{api.Common: api.Served, api.Urgent: api.Rushed}[lane] || e != api.OK {
			t.Fatalf("P5: Core = %d, error %d: a filled place is not taken", n, e)
		}
		filled(t, g, 0, lane, 0, api.ErrTicket)
		claimed(t, g, 0, lane, 2, api.OK)
		claimed(t, g, 1, lane, 0, api.ErrFull)
		filled(t, g, 0, lane, 0, api.ErrTicket)
		filled(t, g, 0, lane, 2, api.OK)
		filled(t, g, 1, lane, 1, api.OK)
	}
}

// What a frame of the common lane is answered with, taken at once.
func served(t *testing.T, g *Gate, f string, want int) {
	t.Helper()
	// Claim would refuse once the gate is shut.
	place, _ := g.lanes[api.Common].Claim(0)
	g.Publish(0, api.Common, place, f)
	if n, e := g.Core(); n != api.Served || e != api.OK {
		t.Fatalf("P5: Core = %d, error %d", n, e)
	}
	if a, e := g.Poll(0); a != (api.Answer{Place: place, Code: want}) || e != api.OK {
		t.Fatalf("P5: the frame %x: %v, error %d, want %d", f, a, e, want)
	}
}

func rushed(t *testing.T, g *Gate, f string, want int) {
	t.Helper()
	place, _ := g.lanes[api.Urgent].Claim(1)
	g.Publish(1, api.Urgent, place, f)
	if n, e := g.Core(); n != api.Rushed || e != api.OK {
		t.Fatalf("P5: Core = %d, error %d", n, e)
	}
	if l, e := g.Acks(1); len(l) != 1 || l[0] != (api.Answer{Place: place, Code: want}) || e != api.OK {
		t.Fatalf("P5: the frame %x: %v, error %d, want %d", f, l, e, want)
	}
}

func buys(number string) string {
	const one = "\x00\x00\x00\x00\x00\x00\x00\x01"
	return "\x01\x00\x00\x00\x00\x00\x00" + number + one + one + one
}

func plain(kind, number string) string {
	return kind + "\x00\x00\x00\x00\x00\x00" + number + strings.Repeat("\x00", 24)
}

// Once shut, no New is Done; Cancels, Kills and Unkills are, and what is wrong is told as before.
func TestFramesOnceShut(t *testing.T) {
	g, e := New(api.Config{Clients: 2, Common: 2, Urgent: 2, Answers: 2, Checks: 1, Accounts: []api.Limits{{Large: 1, Long: 9, Worth: 9, Rate: 9, Window: 1}}})
	if e != api.OK {
		t.Fatalf("P3: New: error %d", e)
	}
	served(t, g, buys("\x01"), api.Done)
	served(t, g, buys("\x02"), api.Done)
	close(g.shut)
	served(t, g, buys("\x03"), api.Shut)
	served(t, g, buys("\x01"), api.Shut)
	served(t, g, plain("\x02", "\x01"), api.Done)
	served(t, g, plain("\x02", "\x01"), api.Unknown)
	served(t, g, buys("\x03")[1:], api.Size)
	served(t, g, "\x01\x01"+buys("\x03")[2:], api.Account)
	rushed(t, g, plain("\x03", "\x00"), api.Done)
	served(t, g, buys("\x03"), api.Shut)
	served(t, g, plain("\x02", "\x02"), api.Done)
	rushed(t, g, plain("\x03", "\x00"), api.Done)
	rushed(t, g, plain("\x04", "\x00"), api.Done)
	rushed(t, g, plain("\x04", "\x00"), api.Done)
	rushed(t, g, plain("\x04", "\x01"), api.Rest)
	served(t, g, buys("\x03"), api.Shut)
}
