package sluice_test

import (
	"math"
	"math/rand"
	"testing"

	"sluice/api"
	"sluice/sluice"
)

func watched(t *testing.T, g *sluice.Gate, want bool) {
	t.Helper()
	if shut, e := g.Watch(); shut != want || e != api.OK {
		t.Fatalf("P7: Watch = %t, error %d, want %t", shut, e, want)
	}
}

// shut lets so many checks be misses; the last of them shuts the gate.
func shut(t *testing.T, g *sluice.Gate, checks int) {
	t.Helper()
	for i := range checks {
		ticks(t, g, 1)
		watched(t, g, i == checks-1)
	}
}

func TestExampleOfTheWatch(t *testing.T) {
	g := made(t, example())
	ticks(t, g, 1)
	watched(t, g, false)
	ticks(t, g, 1)
	watched(t, g, true)
	watched(t, g, true)
}

func TestChecksAtTheBounds(t *testing.T) {
	for _, checks := range []int{1, 2, 99, api.MaxChecks} {
		c := example()
		c.Checks = checks
		g := made(t, c)
		// One miss less, over and over: a step lets them be none.
		for range 3 {
			for range checks - 1 {
				ticks(t, g, 1)
				watched(t, g, false)
			}
			step(t, g, api.Idle)
			ticks(t, g, 1)
			watched(t, g, false)
		}
		shut(t, g, checks)
	}
}

func TestNoCheckWithoutATick(t *testing.T) {
	g := made(t, example())
	for range 10 {
		watched(t, g, false)
	}
	ticks(t, g, 1)
	for range 10 {
		watched(t, g, false) // the first is a miss, the others are no checks
	}
	step(t, g, api.Idle)
	watched(t, g, false) // no check: the step counts for the next one
	ticks(t, g, 1)
	watched(t, g, false) // no miss
	watched(t, g, false)
	ticks(t, g, 1)
	watched(t, g, false) // a miss
	watched(t, g, false)
	ticks(t, g, 1)
	watched(t, g, true)
}

func TestManyTicksBetweenTwoChecks(t *testing.T) {
	g := made(t, example())
	ticks(t, g, 50)
	watched(t, g, false) // one miss, not many
	watched(t, g, false)
	step(t, g, api.Idle)
	ticks(t, g, 50)
	watched(t, g, false) // a step ahead of all the ticks
	ticks(t, g, 25)
	step(t, g, api.Idle)
	ticks(t, g, 25)
	watched(t, g, false) // a step between them
	ticks(t, g, 50)
	step(t, g, api.Idle)
	watched(t, g, false) // a step behind them
	ticks(t, g, 50)
	watched(t, g, false)
	ticks(t, g, 50)
	watched(t, g, true)
}

// Each call of Core is a step, whatever it does; calls of clients are none.
func TestWhatIsAStep(t *testing.T) {
	c := example()
	c.Common, c.Checks = 4, 1
	g := made(t, c)
	check := func(did int) {
		t.Helper()
		step(t, g, did)
		ticks(t, g, 1)
		watched(t, g, false)
	}
	check(api.Idle)
	for range 3 {
		send(t, g, 0, api.Common, "")
	}
	send(t, g, 0, api.Urgent, "")
	check(api.Rushed)
	check(api.Served)
	check(api.Served)
	check(api.Blocked) // it takes a frame, whose answer waits
	check(api.Blocked) // it waits
	polled(t, g, 0, 0, api.Size)
	check(api.Freed)
	check(api.Idle)
	send(t, g, 0, api.Common, "")
	send(t, g, 0, api.Urgent, "")
	polled(t, g, 0, 1, api.Size)
	acks(t, g, 0, api.Answer{Place: 0, Code: api.Size})
	claim(t, g, 1, api.Common, 0, api.ErrClient)
	ticks(t, g, 1)
	watched(t, g, true)
}

func TestNoPlaceIsClaimedOnceShut(t *testing.T) {
	c := example()
	c.Clients = 2
	g, another := made(t, c), made(t, c)
	claim(t, g, 0, api.Common, 0, api.OK)
	claim(t, g, 1, api.Urgent, 0, api.OK)
	claim(t, g, 1, api.Urgent, 1, api.OK)
	ticks(t, g, 1)
	watched(t, g, false)
	// A miss alone does not shut it.
	claim(t, g, 0, api.Common, 1, api.OK)
	publish(t, g, 0, api.Common, 0, "", api.OK)
	ticks(t, g, 1)
	// Nor do ticks: it is shut when the watch looks.
	claim(t, g, 0, api.Common, 0, api.ErrFull)
	watched(t, g, true)
	for range 3 {
		// The lanes are full as well: that it is shut is named first.
		claim(t, g, 0, api.Common, 0, api.ErrClosed)
		claim(t, g, 0, api.Urgent, 0, api.ErrClosed)
		claim(t, g, 2, 9, 0, api.ErrClient)
		claim(t, g, -1, api.Common, 0, api.ErrClient)
		claim(t, g, 0, 9, 0, api.ErrLane)
		claim(t, g, 0, -1, 0, api.ErrLane)
	}
	step(t, g, api.Served)
	claim(t, g, 0, api.Common, 0, api.ErrClosed)
	claim(t, another, 0, api.Common, 0, api.OK)
	watched(t, another, false)
}

func TestPlacesAreFilledAlsoWhenShut(t *testing.T) {
	c := example()
	c.Clients = 2
	g := made(t, c)
	claim(t, g, 0, api.Common, 0, api.OK)
	claim(t, g, 1, api.Urgent, 0, api.OK)
	shut(t, g, 2)
	publish(t, g, 1, api.Common, 0, "x", api.ErrTicket)
	publish(t, g, 0, api.Common, 1, "x", api.ErrTicket)
	publish(t, g, 2, 9, 0, "x", api.ErrClient)
	publish(t, g, 0, 9, 0, "x", api.ErrLane)
	publish(t, g, 0, api.Common, 0, "x", api.OK)
	publish(t, g, 0, api.Common, 0, "x", api.ErrTicket)
	publish(t, g, 1, api.Urgent, 0, "x", api.OK)
	step(t, g, api.Rushed)
	step(t, g, api.Served)
	step(t, g, api.Idle)
	polled(t, g, 0, 0, api.Size)
	acks(t, g, 1, api.Answer{Place: 0, Code: api.Size})
}

// Once shut, no New is Done; Cancels, Kills and Unkills are, orders end, and what is wrong is told as before.
func TestFramesOnceShut(t *testing.T) {
	c := example()
	c.Common, c.Urgent, c.Answers = 16, 16, 16
	c.Accounts = []api.Limits{{Large: 1, Long: 9, Worth: 9, Rate: 9, Window: 1}}
	g := made(t, c)
	for i := range 3 {
		answered(t, g, order(0, 0, i, 1, 1, 3+i), api.Done)
	}
	step(t, g, api.Idle)
	for place := range 16 {
		claim(t, g, 0, api.Common, 3+place, api.OK)
		claim(t, g, 0, api.Urgent, place, api.OK)
	}
	ticks(t, g, 1)
	watched(t, g, false)
	shut(t, g, 2) // the time is 3: order 0 has ended
	common, urgent := 3, 0
	late := func(f string, want int) {
		t.Helper()
		publish(t, g, 0, api.Common, common, f, api.OK)
		step(t, g, api.Served)
		polled(t, g, 0, common, want)
		common++
	}
	rush := func(f string, want int) {
		t.Helper()
		publish(t, g, 0, api.Urgent, urgent, f, api.OK)
		step(t, g, api.Rushed)
		acks(t, g, 0, api.Answer{Place: urgent, Code: want})
		urgent++
	}
	late(order(0, 0, 3, 1, 1, 1), api.Shut)
	late(order(0, 0, 1, 1, 1, 1), api.Shut)           // Twice, were it open
	late(order(0, 0, 3, math.MaxInt, 2, 1), api.Shut) // Over, were it open
	late(order(0, 0, 3, 1, 1, 0), api.Life)
	late(order(1, 0, 3, 1, 1, 1), api.Account)
	late("", api.Size)
	late(other(api.Cancel, 0, 0), api.Unknown)
	late(other(api.Cancel, 0, 3), api.Unknown)
	late(other(api.Cancel, 0, 1), api.Done)
	late(other(api.Cancel, 0, 1), api.Unknown)
	rush(other(api.Kill, 0, 0), api.Done)
	rush(other(api.Kill, 0, 0), api.Done)
	late(order(0, 0, 3, 1, 1, 1), api.Shut) // Killed, were it open
	ticks(t, g, 2)
	late(other(api.Cancel, 0, 2), api.Unknown)
	rush(other(api.Unkill, 0, 0), api.Done)
	rush(other(api.Unkill, 0, 0), api.Done)
	rush(other(api.Unkill, 0, 1), api.Rest)
	late(order(0, 0, 3, 1, 1, 1), api.Shut)
	watched(t, g, true)
}

// What was taken ahead of that is answered as it was then; what is taken behind it finds the gate shut.
func TestShutWhileTheCoreWaits(t *testing.T) {
	c := example()
	c.Common = 8
	c.Accounts = []api.Limits{wide()}
	g := made(t, c)
	for i := range 5 {
		send(t, g, 0, api.Common, order(0, 0, i, 1, 1, 9))
	}
	send(t, g, 0, api.Common, other(api.Cancel, 0, 2))
	claim(t, g, 0, api.Urgent, 0, api.OK)
	step(t, g, api.Served)
	step(t, g, api.Served)
	step(t, g, api.Blocked)
	ticks(t, g, 1)
	watched(t, g, false)
	shut(t, g, 2)
	step(t, g, api.Blocked)
	publish(t, g, 0, api.Urgent, 0, other(api.Kill, 0, 0), api.OK)
	step(t, g, api.Rushed)
	acks(t, g, 0, api.Answer{Place: 0, Code: api.Done})
	polled(t, g, 0, 0, api.Done)
	polled(t, g, 0, 1, api.Done)
	step(t, g, api.Freed)
	step(t, g, api.Served)
	step(t, g, api.Blocked)
	polled(t, g, 0, 2, api.Done)
	polled(t, g, 0, 3, api.Shut)
	step(t, g, api.Freed)
	step(t, g, api.Served)
	step(t, g, api.Idle)
	polled(t, g, 0, 4, api.Shut)
	polled(t, g, 0, 5, api.Done)
	empty(t, g, 0)
}

// P12: whatever is called, a gate that is shut stays so, gives no place and lets no New through.
func TestShutForGood(t *testing.T) {
	r := rand.New(rand.NewSource(5))
	for _, checks := range []int{1, 2, 5, api.MaxChecks} {
		c := example()
		c.Common, c.Urgent, c.Checks = 16, 16, checks
		c.Accounts = []api.Limits{wide()}
		g := made(t, c)
		for place := range 16 {
			claim(t, g, 0, api.Common, place, api.OK)
			claim(t, g, 0, api.Urgent, place, api.OK)
		}
		shut(t, g, checks)
		news := 0
		for range 2000 {
			switch r.Intn(6) {
			case 0:
				g.Core()
			case 1:
				g.Tick()
			case 2:
				watched(t, g, true)
			case 3:
				claim(t, g, 0, r.Intn(2), 0, api.ErrClosed)
			case 4:
				place := r.Intn(16)
				g.Publish(0, api.Common, place, order(0, place%2, place, 1, 1, 1))
				g.Publish(0, api.Urgent, place, other(api.Unkill, 0, 0))
			case 5:
				if a, e := g.Poll(0); e == api.OK {
					news++
					if a.Code != api.Shut {
						t.Fatalf("P12: a New of a gate that is shut: %v", a)
					}
				}
			}
		}
		if news != 16 {
			t.Errorf("P12: %d News were answered, of 16", news)
		}
	}
}

// P12: a core that takes a step ahead of the first check, and between each two, is never shut out.
func TestNeverShutWhileTheCoreSteps(t *testing.T) {
	r := rand.New(rand.NewSource(6))
	for _, checks := range []int{1, 2, api.MaxChecks} {
		c := example()
		c.Checks = checks
		g := made(t, c)
		for range 1000 {
			ticks(t, g, r.Intn(3))
			for range r.Intn(3) {
				g.Claim(0, r.Intn(2))
				g.Publish(0, api.Common, r.Intn(10), "")
			}
			if n, e := g.Core(); n < api.Idle || n > api.Freed || e != api.OK {
				t.Fatalf("P5: Core = %d, error %d", n, e)
			}
			ticks(t, g, r.Intn(3))
			watched(t, g, false)
			for range r.Intn(3) {
				watched(t, g, false)
			}
		}
	}
}

// P10: also when the gate was shut, all frames are answered, once what is claimed is filled, the core takes steps and clients poll.
func TestAllFramesAreAnswered(t *testing.T) {
	r := rand.New(rand.NewSource(7))
	for round := range 40 {
		c := example()
		c.Clients, c.Common, c.Urgent = 3, 2<<(round%4), 2<<(round/4%4)
		c.Accounts = []api.Limits{wide(), example().Accounts[0]}
		g := made(t, c)
		var claims [2][]held // not filled yet
		answers, places := 0, 0
		for range 400 {
			lane, client := r.Intn(2), r.Intn(3)
			switch r.Intn(7) {
			case 0, 1:
				if place, e := g.Claim(client, lane); e == api.OK {
					claims[lane] = append(claims[lane], held{client: client, place: place})
					places++
				}
			case 2, 3:
				fillAny(t, r, g, lane, &claims[lane])
			case 4:
				g.Core()
			case 5:
				g.Tick()
			case 6:
				answers += fetched(g, client)
			}
		}
		if round%2 == 0 {
			g.Core()
			ticks(t, g, 1)
			watched(t, g, false) // no miss yet
			shut(t, g, c.Checks)
		}
		for lane := range 2 {
			for len(claims[lane]) > 0 {
				fillAny(t, r, g, lane, &claims[lane])
			}
		}
		// Each step takes a frame, or frees an answer that waits, till there is none.
		for range 2*(c.Common+c.Urgent) + 2 {
			g.Core()
			for client := range 3 {
				answers += fetched(g, client)
			}
		}
		step(t, g, api.Idle)
		if answers != places || places < 20 {
			t.Fatalf("P10: round %d: %d places, %d answers", round, places, answers)
		}
	}
}

func fillAny(t *testing.T, r *rand.Rand, g *sluice.Gate, lane int, claims *[]held) {
	t.Helper()
	if len(*claims) == 0 {
		return
	}
	i := r.Intn(len(*claims))
	h := (*claims)[i]
	*claims = append((*claims)[:i], (*claims)[i+1:]...)
	publish(t, g, h.client, lane, h.place, anyFrame(r, lane), api.OK)
}

// fetched tells how many answers a client has fetched: one at most out of its ring, and all its acks.
func fetched(g *sluice.Gate, client int) int {
	l, _ := g.Acks(client)
	if _, e := g.Poll(client); e == api.OK {
		return len(l) + 1
	}
	return len(l)
}

func TestTimeAndWatchOfAGateThatIsNil(t *testing.T) {
	var g *sluice.Gate
	for range 3 {
		if e := g.Tick(); e != api.ErrNil {
			t.Errorf("P1: Tick of nil = error %d", e)
		}
		if shut, e := g.Watch(); shut || e != api.ErrNil {
			t.Errorf("P1: Watch of nil = %t, error %d", shut, e)
		}
	}
}

// The time, the steps and the watch of a gate are its own.
func TestTimeAndWatchOfTwoGates(t *testing.T) {
	c := example()
	c.Checks = 1
	a, b := made(t, c), made(t, c)
	answered(t, a, order(0, 0, 1, 1, 1, 1), api.Done)
	answered(t, b, order(0, 0, 1, 1, 1, 1), api.Done)
	ticks(t, a, 1)
	answered(t, a, other(api.Cancel, 0, 1), api.Unknown)
	answered(t, b, order(0, 0, 1, 1, 1, 1), api.Twice)
	watched(t, a, false)
	ticks(t, a, 1)
	step(t, b, api.Idle)
	watched(t, b, false)
	watched(t, a, true)
	watched(t, b, false)
	answered(t, b, other(api.Cancel, 0, 1), api.Done)
	claim(t, a, 0, api.Common, 0, api.ErrClosed)
	ticks(t, b, 1)
	watched(t, b, false)
}
