package sluice_test

import (
	"maps"
	"math/big"
	"math/rand"
	"testing"

	"sluice/api"
	"sluice/sluice"
)

// A place that a client has claimed and not filled.
type held struct {
	client, place int
}

// P8: whoever fills when, each frame has one answer, at its client, and answers come in the order of places.
func TestEachFrameHasOneAnswer(t *testing.T) {
	r := rand.New(rand.NewSource(3))
	for _, size := range []int{2, 4, 16} {
		c := example()
		c.Clients, c.Common, c.Urgent, c.Answers = 3, size, size, 2
		c.Accounts = []api.Limits{wide()}
		g := made(t, c)
		var claims [2][]held      // not filled yet
		var owed, got [2][3][]int // places, by lane and client
		collect := func(client int) {
			if a, e := g.Poll(client); e == api.OK {
				got[api.Common][client] = append(got[api.Common][client], a.Place)
			}
			l, _ := g.Acks(client)
			for _, a := range l {
				got[api.Urgent][client] = append(got[api.Urgent][client], a.Place)
			}
		}
		for range 5000 {
			lane, client := r.Intn(2), r.Intn(3)
			switch r.Intn(4) {
			case 0:
				if place, e := g.Claim(client, lane); e == api.OK {
					claims[lane] = append(claims[lane], held{client: client, place: place})
					owed[lane][client] = append(owed[lane][client], place)
				}
			case 1:
				fillOne(t, r, g, lane, &claims[lane])
			case 2:
				g.Core()
			case 3:
				collect(client)
			}
		}
		for lane := range 2 {
			for len(claims[lane]) > 0 {
				fillOne(t, r, g, lane, &claims[lane])
			}
		}
		for range 20 * size {
			g.Core()
			collect(0)
			collect(1)
			collect(2)
		}
		step(t, g, api.Idle)
		compareOwed(t, owed, got)
	}
}

func fillOne(t *testing.T, r *rand.Rand, g *sluice.Gate, lane int, claims *[]held) {
	t.Helper()
	if len(*claims) == 0 {
		return
	}
	i := r.Intn(len(*claims))
	h := (*claims)[i]
	*claims = append((*claims)[:i], (*claims)[i+1:]...)
	publish(t, g, h.client, lane, h.place, order(0, 0, h.place, 1, 1, 1), api.OK)
}

func compareOwed(t *testing.T, owed, got [2][3][]int) {
	t.Helper()
	for lane := range 2 {
		for client := range 3 {
			o, g := owed[lane][client], got[lane][client]
			if len(o) < 20 || len(o) != len(g) {
				t.Fatalf("P8: lane %d, client %d: %d places, %d answers", lane, client, len(o), len(g))
			}
			for i := range o {
				if o[i] != g[i] {
					t.Fatalf("P8: lane %d, client %d: answer %d is of place %d, not %d", lane, client, i, g[i], o[i])
				}
			}
		}
	}
}

// P8: frames do what they say in the order of their places, not in the order in which they were filled.
func TestFramesAreTakenInTheOrderOfPlaces(t *testing.T) {
	c := example()
	c.Clients, c.Common, c.Answers = 2, 4, 4
	c.Accounts = []api.Limits{wide()}
	g := made(t, c)
	for place := range 4 {
		claim(t, g, place%2, api.Common, place, api.OK)
	}
	publish(t, g, 1, api.Common, 3, order(0, 0, 7, 1, 1, 1), api.OK)
	publish(t, g, 0, api.Common, 2, other(api.Cancel, 0, 7), api.OK)
	publish(t, g, 1, api.Common, 1, order(0, 1, 7, 1, 1, 1), api.OK)
	publish(t, g, 0, api.Common, 0, order(0, 0, 7, 1, 1, 1), api.OK)
	for range 4 {
		step(t, g, api.Served)
	}
	polled(t, g, 1, 1, api.Twice)
	polled(t, g, 1, 3, api.Done)
	polled(t, g, 0, 0, api.Done)
	polled(t, g, 0, 2, api.Done)
}

// P9: a Kill in the last urgent place is done within as many steps as there are urgent places, also while the core waits; then no New is Done, till an Unkill.
func TestAKillComesThrough(t *testing.T) {
	for _, urgent := range []int{2, 4, 8, 16} {
		for _, waits := range []bool{false, true} {
			c := example()
			c.Clients, c.Common, c.Urgent = 2, 16, urgent
			c.Accounts = []api.Limits{wide(), wide()}
			g := made(t, c)
			for i := range 16 {
				send(t, g, 0, api.Common, order(1, 0, i, 1, 1, 1))
			}
			if waits {
				step(t, g, api.Served)
				step(t, g, api.Served)
				step(t, g, api.Blocked)
			}
			for range urgent - 1 {
				send(t, g, 1, api.Urgent, other(api.Unkill, 1, 0))
			}
			send(t, g, 1, api.Urgent, other(api.Kill, 1, 0))
			for range urgent {
				step(t, g, api.Rushed)
			}
			if l, e := g.Acks(1); e != api.OK || len(l) != urgent || l[urgent-1] != (api.Answer{Place: urgent - 1}) {
				t.Fatalf("P9: Acks = %v, error %d", l, e)
			}
			first := 0
			if waits {
				first = 3 // these were taken ahead of the Kill
			}
			killedFrom(t, g, first)
			answered(t, g, order(0, 0, 1, 1, 1, 1), api.Done)
			rushed(t, g, other(api.Unkill, 0, 0), api.Done)
			answered(t, g, order(1, 0, 99, 1, 1, 1), api.Killed)
			rushed(t, g, other(api.Unkill, 1, 0), api.Done)
			answered(t, g, order(1, 0, 99, 1, 1, 1), api.Done)
		}
	}
}

// killedFrom looks at the answers of the places 0 to 15: Done up to the first, Killed from there on.
func killedFrom(t *testing.T, g *sluice.Gate, first int) {
	t.Helper()
	for place := 0; place < 16; {
		g.Core()
		a, e := g.Poll(0)
		if e != api.OK {
			continue
		}
		want := api.Done
		if place >= first {
			want = api.Killed
		}
		if a != (api.Answer{Place: place, Code: want}) {
			t.Fatalf("P9: the answer is %v, want %d, %d", a, place, want)
		}
		place++
	}
	step(t, g, api.Idle)
}

type opened struct{ side, price, qty, end int }

// P11: what was answered Done, less what was cancelled and what has ended, is within the limits, counted in numbers that have no end.
func TestNoAccountIsBeyondItsLimits(t *testing.T) {
	r := rand.New(rand.NewSource(4))
	sizes := []int{3, 10, 1 << 31, 1 << 62, 1<<63 - 1}
	for range 30 {
		c := example()
		c.Accounts = nil
		for range 2 {
			pick := func() int { return min(sizes[r.Intn(len(sizes))], api.MaxLimit) }
			c.Accounts = append(c.Accounts, api.Limits{Large: pick(), Long: pick(), Short: pick(), Worth: pick(), Rate: pick(), Window: 1})
		}
		g := made(t, c)
		open := []map[int]opened{{}, {}}
		for i := range 600 {
			if i%4 == 0 {
				ticks(t, g, 1)
				endBy(open, i/4+1)
			}
			account, number := r.Intn(2), r.Intn(20)
			o := opened{side: r.Intn(2), price: 1 + r.Intn(sizes[r.Intn(len(sizes))]), qty: 1 + r.Intn(sizes[r.Intn(len(sizes))])}
			life := 1 + r.Intn(10)
			o.end = i/4 + 1 + life
			f, cancels := order(account, o.side, number, o.price, o.qty, life), r.Intn(3) == 0
			if cancels {
				f = other(api.Cancel, account, number)
			}
			send(t, g, 0, api.Common, f)
			step(t, g, api.Served)
			a, _ := g.Poll(0)
			if a.Code == api.Done && cancels {
				delete(open[account], number)
			} else if a.Code == api.Done {
				open[account][number] = o
			}
			withinLimits(t, c.Accounts[account], open[account])
		}
	}
}

// endBy takes out the orders that have ended by this time.
func endBy(open []map[int]opened, now int) {
	for _, orders := range open {
		maps.DeleteFunc(orders, func(_ int, o opened) bool { return o.end <= now })
	}
}

func withinLimits(t *testing.T, l api.Limits, open map[int]opened) {
	t.Helper()
	var qty [2]big.Int
	var worth big.Int
	for _, o := range open {
		q := big.NewInt(int64(o.qty))
		qty[o.side].Add(&qty[o.side], q)
		worth.Add(&worth, q.Mul(q, big.NewInt(int64(o.price))))
		if o.qty > l.Large {
			t.Fatalf("P11: an order of %d is open, Large is %d", o.qty, l.Large)
		}
	}
	if qty[0].Cmp(big.NewInt(int64(l.Long))) > 0 || qty[1].Cmp(big.NewInt(int64(l.Short))) > 0 || worth.Cmp(big.NewInt(int64(l.Worth))) > 0 {
		t.Fatalf("P11: open are %v and %v, worth %v; the limits are %+v", &qty[0], &qty[1], &worth, l)
	}
}
