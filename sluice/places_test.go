package sluice_test

import (
	"math"
	"runtime"
	"slices"
	"strings"
	"sync"
	"testing"
	"weak"

	"sluice/api"
	"sluice/sluice"
)

// The settings of the document's examples.
func example() api.Config {
	return api.Config{Clients: 1, Common: 2, Urgent: 2, Answers: 2, Checks: 2, Accounts: []api.Limits{
		{Large: 10, Long: 12, Short: 0, Worth: 1000, Rate: 2, Window: 5},
	}}
}

func made(t *testing.T, c api.Config) *sluice.Gate {
	t.Helper()
	g, e := sluice.New(c)
	if g == nil || e != api.OK {
		t.Fatalf("P3: New(%v): error %d", c, e)
	}
	return g
}

func claim(t *testing.T, g *sluice.Gate, client, lane, want int, wantErr api.Errno) {
	t.Helper()
	if n, e := g.Claim(client, lane); n != want || e != wantErr {
		t.Fatalf("P4: Claim(%d, %d) = %d, error %d, want %d, error %d", client, lane, n, e, want, wantErr)
	}
}

func publish(t *testing.T, g *sluice.Gate, client, lane, place int, frame string, want api.Errno) {
	t.Helper()
	if e := g.Publish(client, lane, place, frame); e != want {
		t.Fatalf("P4: Publish(%d, %d, %d) = error %d, want %d", client, lane, place, e, want)
	}
}

func TestNewAtTheBounds(t *testing.T) {
	least := api.Config{Clients: 1, Common: 2, Urgent: 2, Answers: 2, Checks: 1, Accounts: []api.Limits{{Window: 1}}}
	l := api.Limits{Large: api.MaxLimit, Long: api.MaxLimit, Short: api.MaxLimit, Worth: api.MaxLimit, Rate: api.MaxLimit, Window: api.MaxWindow}
	most := api.Config{Clients: 8, Common: 16, Urgent: 16, Answers: 16, Checks: 100, Accounts: []api.Limits{l, l, l, l}}
	for _, c := range []api.Config{least, most} {
		g := made(t, c)
		for lane, size := range []int{c.Common, c.Urgent} {
			for i := range size {
				claim(t, g, c.Clients-1, lane, i, api.OK)
			}
			claim(t, g, 0, lane, 0, api.ErrFull)
			claim(t, g, c.Clients, lane, 0, api.ErrClient)
		}
	}
}

func TestNewOfWrongSettings(t *testing.T) {
	for i, spoil := range []func(c *api.Config){
		func(c *api.Config) { *c = api.Config{} },
		func(c *api.Config) { c.Clients = 0 },
		func(c *api.Config) { c.Clients = 9 },
		func(c *api.Config) { c.Common = 1 },
		func(c *api.Config) { c.Common = 6 },
		func(c *api.Config) { c.Urgent = 32 },
		func(c *api.Config) { c.Urgent = math.MinInt },
		func(c *api.Config) { c.Answers = 0 },
		func(c *api.Config) { c.Checks = 0 },
		func(c *api.Config) { c.Checks = 101 },
		func(c *api.Config) { c.Accounts = nil },
		func(c *api.Config) { c.Accounts = slices.Repeat(c.Accounts, 5) },
		func(c *api.Config) { c.Accounts[0].Large = -1 },
		func(c *api.Config) { c.Accounts[0].Rate = api.MaxLimit + 1 },
		func(c *api.Config) { c.Accounts[0].Window = 0 },
		func(c *api.Config) { c.Accounts[0].Window = 1001 },
	} {
		c := example()
		spoil(&c)
		if g, e := sluice.New(c); g != nil || e != api.ErrConfig {
			t.Errorf("P3: wrong settings %d: gate %t, error %d", i, g != nil, e)
		}
	}
}

// The lanes and the clients' places within them are told apart.
func TestPlacesOfClientsAndLanes(t *testing.T) {
	c := example()
	c.Clients, c.Urgent = 3, 4
	g := made(t, c)
	claim(t, g, 2, api.Common, 0, api.OK)
	publish(t, g, 2, api.Urgent, 0, "x", api.ErrTicket)
	claim(t, g, 0, api.Urgent, 0, api.OK)
	claim(t, g, 1, api.Urgent, 1, api.OK)
	claim(t, g, 1, api.Common, 1, api.OK)
	claim(t, g, 2, api.Urgent, 2, api.OK)
	claim(t, g, 2, api.Common, 0, api.ErrFull)
	claim(t, g, 2, api.Urgent, 3, api.OK)
	claim(t, g, 0, api.Urgent, 0, api.ErrFull)
	publish(t, g, 0, api.Common, 0, "x", api.ErrTicket)
	publish(t, g, 1, api.Common, 0, "x", api.ErrTicket)
	publish(t, g, 2, api.Urgent, 0, "x", api.ErrTicket)
	publish(t, g, 2, api.Urgent, 3, "x", api.OK)
	publish(t, g, 2, api.Urgent, 3, "x", api.ErrTicket)
	publish(t, g, 2, api.Urgent, 2, "x", api.OK)
	publish(t, g, 2, api.Common, 0, "x", api.OK)
	publish(t, g, 0, api.Urgent, 0, "x", api.OK)
	publish(t, g, 1, api.Urgent, 1, "x", api.OK)
	publish(t, g, 1, api.Common, 1, "x", api.OK)
	// Filled places are not free: the core has not taken them.
	claim(t, g, 0, api.Common, 0, api.ErrFull)
	claim(t, g, 0, api.Urgent, 0, api.ErrFull)
}

// The numbers go on behind places that were taken, and these are not filled again.
func TestPlacesBehindThoseTaken(t *testing.T) {
	for lane, did := range []int{api.Common: api.Served, api.Urgent: api.Rushed} {
		c := example()
		c.Clients = 2
		g := made(t, c)
		claim(t, g, 0, lane, 0, api.OK)
		claim(t, g, 1, lane, 1, api.OK)
		publish(t, g, 0, lane, 0, "x", api.OK)
		claim(t, g, 0, lane, 0, api.ErrFull)
		step(t, g, did)
		publish(t, g, 0, lane, 0, "x", api.ErrTicket)
		claim(t, g, 0, lane, 2, api.OK)
		claim(t, g, 1, lane, 0, api.ErrFull)
		publish(t, g, 0, lane, 0, "x", api.ErrTicket)
		publish(t, g, 0, lane, 2, "x", api.OK)
		publish(t, g, 1, lane, 1, "x", api.OK)
	}
}

func TestTheFirstErrorIsTold(t *testing.T) {
	g := made(t, example())
	claim(t, g, 0, api.Common, 0, api.OK)
	claim(t, g, 0, api.Common, 1, api.OK)
	for _, client := range []int{-1, 1, 8, math.MaxInt, math.MinInt} {
		for _, lane := range []int{-1, api.Common, api.Urgent, 2, math.MaxInt} {
			claim(t, g, client, lane, 0, api.ErrClient)
			publish(t, g, client, lane, -1, "", api.ErrClient)
		}
	}
	for _, lane := range []int{-1, 2, 3, math.MaxInt, math.MinInt} {
		claim(t, g, 0, lane, 0, api.ErrLane)
		publish(t, g, 0, lane, -1, "", api.ErrLane)
		publish(t, g, 0, lane, 0, "", api.ErrLane)
	}
}

func TestAGateThatIsNil(t *testing.T) {
	var g *sluice.Gate
	for _, n := range []int{math.MinInt, -1, 0, 1, 2, math.MaxInt} {
		claim(t, g, n, n, 0, api.ErrNil)
		claim(t, g, 0, n, 0, api.ErrNil)
		publish(t, g, n, n, n, "x", api.ErrNil)
		publish(t, g, 0, 0, n, "", api.ErrNil)
	}
}

// A call that errs, whichever it is, leaves the places as they were: those claimed are still to be filled, the next one has the next number.
func TestAnErrorChangesNothing(t *testing.T) {
	numbers := []int{math.MinInt, math.MinInt + 1, -17, -2, -1, 0, 1, 2, 3, 15, 16, 17, 1 << 31, 1 << 32, 1 << 62, math.MaxInt}
	frames := []string{"", "\xff\xfe", strings.Repeat("\x00", api.Frame), strings.Repeat("long", 100000)}
	g := made(t, example())
	claim(t, g, 0, api.Common, 0, api.OK)
	err := func() {
		for _, a := range numbers {
			for _, b := range numbers {
				if a != 0 || b != api.Common && b != api.Urgent {
					if n, e := g.Claim(a, b); n != 0 || e == api.OK {
						t.Fatalf("P1: Claim(%d, %d) = %d, error %d", a, b, n, e)
					}
				}
				for i, place := range numbers {
					if a == 0 && b == api.Common && place == 0 {
						continue
					}
					if e := g.Publish(a, b, place, frames[i%len(frames)]); e == api.OK {
						t.Fatalf("P1: Publish(%d, %d, %d): OK", a, b, place)
					}
				}
			}
		}
	}
	err()
	publish(t, g, 0, api.Common, 0, frames[3], api.OK)
	err()
	claim(t, g, 0, api.Common, 1, api.OK)
	claim(t, g, 0, api.Common, 0, api.ErrFull)
	claim(t, g, 0, api.Common, 0, api.ErrFull)
	claim(t, g, 0, api.Urgent, 0, api.OK)
	publish(t, g, 0, api.Common, 0, "", api.ErrTicket)
	publish(t, g, 0, api.Common, 1, frames[1], api.OK)
	publish(t, g, 0, api.Urgent, 0, frames[2], api.OK)
}

func TestGatesHaveNothingToDoWithOneAnother(t *testing.T) {
	c := example()
	a, b := made(t, c), made(t, c)
	claim(t, a, 0, api.Common, 0, api.OK)
	publish(t, b, 0, api.Common, 0, "x", api.ErrTicket)
	claim(t, a, 0, api.Common, 1, api.OK)
	claim(t, a, 0, api.Common, 0, api.ErrFull)
	claim(t, b, 0, api.Common, 0, api.OK)
	publish(t, b, 0, api.Common, 0, "x", api.OK)
	publish(t, a, 0, api.Common, 0, "x", api.OK)
	claim(t, b, 0, api.Common, 1, api.OK)
}

func TestNewDoesNotChangeTheList(t *testing.T) {
	wrong := api.Limits{Large: -1, Window: -1}
	room := []api.Limits{{Large: 9, Long: 8, Short: 7, Worth: 6, Rate: 5, Window: 4}, {Window: 1}, wrong, wrong}
	before := slices.Clone(room)
	c := example()
	c.Accounts = room[:2]
	made(t, c)
	c.Accounts = room[:3]
	if g, e := sluice.New(c); g != nil || e != api.ErrConfig {
		t.Errorf("P3: a wrong account: error %d", e)
	}
	if !slices.Equal(room, before) {
		t.Errorf("P2: the list became %v, was %v", room, before)
	}
}

// A list that a gate kept would outlive the collection. (Made in a goroutine that has ended, so that no stack holds it.)
func TestNewDoesNotKeepTheList(t *testing.T) {
	var g *sluice.Gate
	var list weak.Pointer[api.Limits]
	var wg sync.WaitGroup
	wg.Go(func() {
		c := example()
		list = weak.Make(&c.Accounts[0])
		g, _ = sluice.New(c)
	})
	wg.Wait()
	runtime.GC()
	if g == nil || list.Value() != nil {
		t.Errorf("P2: gate %t, the list of accounts is kept: %t", g != nil, list.Value() != nil)
	}
	runtime.KeepAlive(g)
}
