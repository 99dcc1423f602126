package sluice_test

import (
	"encoding/binary"
	"math"
	"slices"
	"testing"

	"sluice/api"
	"sluice/sluice"
)

func order(account, side, number, price, qty, life int) string {
	b := binary.BigEndian.AppendUint32([]byte{api.New, byte(account), byte(side), 0}, uint32(number))
	for _, n := range []int{price, qty, life} {
		b = binary.BigEndian.AppendUint64(b, uint64(n))
	}
	return string(b)
}

// A Cancel, a Kill or an Unkill.
func other(kind, account, number int) string {
	b := binary.BigEndian.AppendUint32([]byte{byte(kind), byte(account), 0, 0}, uint32(number))
	return string(append(b, make([]byte, 24)...))
}

func step(t *testing.T, g *sluice.Gate, want int) {
	t.Helper()
	if n, e := g.Core(); n != want || e != api.OK {
		t.Fatalf("P5: Core = %d, error %d, want %d", n, e, want)
	}
}

func polled(t *testing.T, g *sluice.Gate, client, place, code int) {
	t.Helper()
	if a, e := g.Poll(client); a != (api.Answer{Place: place, Code: code}) || e != api.OK {
		t.Fatalf("P5: Poll(%d) = %v, error %d, want %d, %d", client, a, e, place, code)
	}
}

func empty(t *testing.T, g *sluice.Gate, client int) {
	t.Helper()
	if a, e := g.Poll(client); a != (api.Answer{}) || e != api.ErrEmpty {
		t.Fatalf("P5: Poll(%d) = %v, error %d, want ErrEmpty", client, a, e)
	}
}

func acks(t *testing.T, g *sluice.Gate, client int, want ...api.Answer) {
	t.Helper()
	if l, e := g.Acks(client); !slices.Equal(l, want) || e != api.OK {
		t.Fatalf("P5: Acks(%d) = %v, error %d, want %v", client, l, e, want)
	}
}

// send lays a frame into a lane; it tells the place.
func send(t *testing.T, g *sluice.Gate, client, lane int, frame string) int {
	t.Helper()
	place, e := g.Claim(client, lane)
	if e != api.OK {
		t.Fatalf("P4: Claim(%d, %d): error %d", client, lane, e)
	}
	publish(t, g, client, lane, place, frame, api.OK)
	return place
}

// answered looks what a frame of the common lane is answered with, taken at once.
func answered(t *testing.T, g *sluice.Gate, frame string, code int) {
	t.Helper()
	place := send(t, g, 0, api.Common, frame)
	step(t, g, api.Served)
	polled(t, g, 0, place, code)
}

// rushed looks what a frame of the urgent lane is answered with, taken at once.
func rushed(t *testing.T, g *sluice.Gate, frame string, code int) {
	t.Helper()
	place := send(t, g, 0, api.Urgent, frame)
	step(t, g, api.Rushed)
	acks(t, g, 0, api.Answer{Place: place, Code: code})
}

func wide() api.Limits {
	return api.Limits{Large: api.MaxLimit, Long: api.MaxLimit, Short: api.MaxLimit, Worth: api.MaxLimit, Rate: api.MaxLimit, Window: 1}
}

func TestExampleOfTheDocument(t *testing.T) {
	g := made(t, example())
	claim(t, g, 0, api.Common, 0, api.OK)
	claim(t, g, 0, api.Common, 1, api.OK)
	claim(t, g, 0, api.Common, 0, api.ErrFull)
	publish(t, g, 0, api.Common, 1, order(0, 0, 7, 5, 10, 3), api.OK)
	step(t, g, api.Idle)
	publish(t, g, 0, api.Common, 0, "", api.OK)
	publish(t, g, 0, api.Common, 0, "", api.ErrTicket)
	step(t, g, api.Served)
	step(t, g, api.Served)
	polled(t, g, 0, 0, api.Size)
	polled(t, g, 0, 1, api.Done)
	empty(t, g, 0)
	answered(t, g, order(0, 0, 8, 1, 3, 3), api.Long)
	answered(t, g, order(0, 0, 8, 500, 2, 3), api.Worth)
	answered(t, g, order(0, 0, 8, 5, 2, 3), api.Done)
	answered(t, g, order(0, 0, 9, 5, 0, 3), api.Qty)
	ticks(t, g, 2)
	answered(t, g, order(0, 0, 7, 5, 1, 3), api.Twice)
	ticks(t, g, 1)
	answered(t, g, other(api.Cancel, 0, 7), api.Unknown)
}

func TestANewGateIsIdle(t *testing.T) {
	c := example()
	c.Clients = api.MaxClients
	g := made(t, c)
	for range 3 {
		step(t, g, api.Idle)
	}
	for client := range c.Clients {
		empty(t, g, client)
		acks(t, g, client)
	}
}

// Every code of a frame comes to its client, in either lane, and does nothing else.
func TestEachCodeOfAFrame(t *testing.T) {
	c := example()
	c.Accounts = []api.Limits{wide(), {Large: 10, Long: 12, Short: 8, Worth: 1000, Rate: 2, Window: 5}}
	g := made(t, c)
	right := order(1, 0, 7, 5, 10, 3)
	answered(t, g, right[:31], api.Size)
	answered(t, g, right+"\x00", api.Size)
	answered(t, g, "\x00"+right[1:], api.Kind)
	answered(t, g, other(api.Kill, 1, 0), api.Kind)
	answered(t, g, other(api.Unkill, 1, 0), api.Kind)
	answered(t, g, order(2, 9, 7, 0, 0, 0), api.Account)
	answered(t, g, order(1, 2, 7, 0, 0, 0), api.Side)
	answered(t, g, right[:3]+"\x01"+right[4:], api.Rest)
	answered(t, g, order(1, 0, 7, 0, 0, 0), api.Price)
	answered(t, g, order(1, 0, 7, math.MinInt, 1, 1), api.Price)
	answered(t, g, order(1, 0, 7, math.MaxInt, 0, 0), api.Qty)
	answered(t, g, order(1, 0, 7, 1, math.MinInt, 1), api.Qty)
	answered(t, g, order(1, 0, 7, 1, 1, 0), api.Life)
	answered(t, g, order(1, 0, 7, 1, 1, api.MaxLife+1), api.Life)
	answered(t, g, other(api.Cancel, 1, 7), api.Unknown)
	answered(t, g, right, api.Done)
	answered(t, g, right, api.Twice)
	answered(t, g, order(1, 0, 8, math.MaxInt, 2, 1), api.Over)
	answered(t, g, order(1, 0, 8, 1, 11, 1), api.Large)
	answered(t, g, order(1, 0, 8, 1, 3, 1), api.Long)
	answered(t, g, order(1, 1, 8, 1, 9, 1), api.Short)
	answered(t, g, order(1, 0, 8, 476, 2, 1), api.Worth)
	answered(t, g, order(1, 0, 8, 475, 2, api.MaxLife), api.Done)
	answered(t, g, other(api.Cancel, 1, 7)[:31]+"\x01", api.Rest)
	answered(t, g, other(api.Cancel, 1, 7), api.Done)
	answered(t, g, order(1, 1, 7, 1, 1, 1), api.Rate)
	rushed(t, g, "", api.Size)
	rushed(t, g, right, api.Kind)
	rushed(t, g, other(api.Cancel, 1, 8), api.Kind)
	rushed(t, g, other(api.Kill, 2, 0), api.Account)
	rushed(t, g, other(api.Kill, 1, 1), api.Rest)
	answered(t, g, order(1, 1, 7, 1, 1, 1), api.Rate)
	rushed(t, g, other(api.Kill, 1, 0), api.Done)
	rushed(t, g, other(api.Unkill, 1, 1), api.Rest)
	answered(t, g, order(1, 1, 7, 1, 1, 1), api.Killed)
	answered(t, g, other(api.Cancel, 1, 8), api.Done)
	rushed(t, g, other(api.Unkill, 1, 0), api.Done)
	answered(t, g, order(1, 1, 7, 1, 1, 1), api.Rate)
}

// An account's orders, limits and stops are its own.
func TestAccountsHaveNothingToDoWithOneAnother(t *testing.T) {
	c := example()
	c.Accounts = []api.Limits{wide(), wide(), {Window: 1}, {Large: 1, Long: 1, Short: 1, Worth: 1, Window: 1}}
	g := made(t, c)
	answered(t, g, order(0, 0, 7, 1, api.MaxLimit, 1), api.Done)
	answered(t, g, order(1, 0, 7, 1, api.MaxLimit, 1), api.Done)
	answered(t, g, order(2, 0, 7, 1, 1, 1), api.Large)
	answered(t, g, order(3, 0, 7, 1, 1, 1), api.Rate)
	answered(t, g, other(api.Cancel, 2, 7), api.Unknown)
	rushed(t, g, other(api.Kill, 0, 0), api.Done)
	answered(t, g, other(api.Cancel, 0, 7), api.Done)
	answered(t, g, order(0, 0, 7, 1, 1, 1), api.Killed)
	answered(t, g, order(1, 0, 7, 1, 1, 1), api.Twice)
	rushed(t, g, other(api.Unkill, 1, 0), api.Done)
	answered(t, g, order(0, 0, 7, 1, 1, 1), api.Killed)
}

func TestStepsInTheirOrder(t *testing.T) {
	c := example()
	c.Clients, c.Common = 2, 4
	g := made(t, c)
	for range 4 {
		send(t, g, 0, api.Common, "")
	}
	send(t, g, 0, api.Urgent, "")
	// Urgent first, though it came last.
	step(t, g, api.Rushed)
	step(t, g, api.Served)
	step(t, g, api.Served)
	step(t, g, api.Blocked)
	step(t, g, api.Blocked)
	send(t, g, 1, api.Urgent, "")
	step(t, g, api.Rushed)
	step(t, g, api.Blocked)
	polled(t, g, 0, 0, api.Size)
	// An answer waits, and its place is free: what is urgent goes ahead still.
	send(t, g, 1, api.Urgent, "")
	step(t, g, api.Rushed)
	step(t, g, api.Freed)
	step(t, g, api.Blocked)
	polled(t, g, 0, 1, api.Size)
	polled(t, g, 0, 2, api.Size)
	empty(t, g, 0)
	step(t, g, api.Freed)
	step(t, g, api.Idle)
	polled(t, g, 0, 3, api.Size)
	empty(t, g, 0)
	acks(t, g, 1, api.Answer{Place: 1, Code: api.Size}, api.Answer{Place: 2, Code: api.Size})
	acks(t, g, 0, api.Answer{Place: 0, Code: api.Size})
}

// While the core waits for one client, nothing of the common lane is taken, also not for others.
func TestTheCoreWaitsForOneClient(t *testing.T) {
	c := example()
	c.Clients, c.Common = 2, 4
	g := made(t, c)
	for range 3 {
		send(t, g, 0, api.Common, "")
	}
	send(t, g, 1, api.Common, "")
	step(t, g, api.Served)
	step(t, g, api.Served)
	step(t, g, api.Blocked)
	for range 3 {
		send(t, g, 1, api.Common, "")
	}
	claim(t, g, 1, api.Common, 0, api.ErrFull)
	for range 20 {
		step(t, g, api.Blocked)
		empty(t, g, 1)
	}
	polled(t, g, 0, 0, api.Size)
	step(t, g, api.Freed)
	step(t, g, api.Served)
	polled(t, g, 1, 3, api.Size)
	empty(t, g, 1)
	claim(t, g, 1, api.Common, 7, api.OK)
}

// What a frame says is done when it is taken, also if its answer finds no place.
func TestWhatIsSaidIsDoneAheadOfItsAnswer(t *testing.T) {
	c := example()
	c.Common = 4
	c.Accounts = []api.Limits{wide()}
	g := made(t, c)
	for i := range 3 {
		send(t, g, 0, api.Common, order(0, 0, i, 1, 1, 1))
	}
	send(t, g, 0, api.Common, other(api.Cancel, 0, 2))
	step(t, g, api.Served)
	step(t, g, api.Served)
	step(t, g, api.Blocked)
	// The order with which it waits was let through ahead of the stop.
	send(t, g, 0, api.Urgent, other(api.Kill, 0, 0))
	step(t, g, api.Rushed)
	polled(t, g, 0, 0, api.Done)
	polled(t, g, 0, 1, api.Done)
	step(t, g, api.Freed)
	polled(t, g, 0, 2, api.Done)
	step(t, g, api.Served)
	polled(t, g, 0, 3, api.Done)
}

// Behind a place that is not filled nothing is taken, in either lane; the other lane goes on.
func TestNothingIsTakenBehindAGap(t *testing.T) {
	g := made(t, example())
	claim(t, g, 0, api.Urgent, 0, api.OK)
	claim(t, g, 0, api.Urgent, 1, api.OK)
	publish(t, g, 0, api.Urgent, 1, other(api.Kill, 0, 0), api.OK)
	step(t, g, api.Idle)
	acks(t, g, 0)
	answered(t, g, order(0, 0, 1, 1, 1, 1), api.Done)
	claim(t, g, 0, api.Common, 1, api.OK)
	claim(t, g, 0, api.Common, 2, api.OK)
	publish(t, g, 0, api.Common, 2, "", api.OK)
	step(t, g, api.Idle)
	empty(t, g, 0)
	publish(t, g, 0, api.Urgent, 0, "", api.OK)
	step(t, g, api.Rushed)
	step(t, g, api.Rushed)
	step(t, g, api.Idle)
	acks(t, g, 0, api.Answer{Place: 0, Code: api.Size}, api.Answer{Place: 1, Code: api.Done})
	publish(t, g, 0, api.Common, 1, order(0, 0, 2, 1, 1, 1), api.OK)
	step(t, g, api.Served)
	step(t, g, api.Served)
	polled(t, g, 0, 1, api.Killed)
	polled(t, g, 0, 2, api.Size)
}

// Lanes and rings of answers of every size go round many times; the numbers of places go on.
func TestManyRoundsOfPlaces(t *testing.T) {
	for _, size := range []int{2, 4, 8, 16} {
		c := example()
		c.Common, c.Urgent, c.Answers = size, size, size
		c.Accounts = []api.Limits{wide()}
		g := made(t, c)
		for round := range 20 {
			for i := range size {
				send(t, g, 0, api.Common, order(0, 0, round*size+i, 1, 1, 1))
				send(t, g, 0, api.Urgent, other(api.Unkill, 0, 0))
			}
			claim(t, g, 0, api.Common, 0, api.ErrFull)
			claim(t, g, 0, api.Urgent, 0, api.ErrFull)
			var want []api.Answer
			for i := range size {
				step(t, g, api.Rushed)
				want = append(want, api.Answer{Place: round*size + i})
			}
			acks(t, g, 0, want...)
			acks(t, g, 0)
			for range size {
				step(t, g, api.Served)
			}
			for i := range size {
				polled(t, g, 0, round*size+i, api.Done)
			}
			empty(t, g, 0)
			step(t, g, api.Idle)
		}
	}
}

// Acks wait as long as nobody asks: they have no ring that could be full.
func TestAcksOfManyRounds(t *testing.T) {
	c := example()
	c.Clients = 2
	g := made(t, c)
	var want [2][]api.Answer
	for i := range 100 {
		client := i % 3 % 2
		send(t, g, client, api.Urgent, other(api.Kill, i%2, 0))
		step(t, g, api.Rushed)
		want[client] = append(want[client], api.Answer{Place: i, Code: []int{api.Done, api.Account}[i%2]})
	}
	acks(t, g, 1, want[1]...)
	acks(t, g, 1)
	acks(t, g, 0, want[0]...)
	acks(t, g, 0)
}

// A list of acks is new memory: what the caller does to it, and to its spare room, is not seen again.
func TestAcksAreNewMemory(t *testing.T) {
	c := example()
	c.Clients = 2
	g := made(t, c)
	var lists [][]api.Answer
	for i := range 40 {
		for range i%5 + 1 {
			send(t, g, i%2, api.Urgent, "")
			step(t, g, api.Rushed)
		}
		l, e := g.Acks(i % 2)
		if len(l) != i%5+1 || e != api.OK {
			t.Fatalf("P5: Acks = %v, error %d", l, e)
		}
		for _, a := range l {
			if a.Code != api.Size {
				t.Fatalf("P2: Acks = %v", l)
			}
		}
		whole := l[:cap(l)]
		for j := range whole {
			whole[j] = api.Answer{Place: -i, Code: -i}
		}
		lists = append(lists, whole)
	}
	for i, l := range lists {
		for _, a := range l {
			if a != (api.Answer{Place: -i, Code: -i}) {
				t.Fatalf("P2: list %d became %v", i, l)
			}
		}
	}
}

func TestFetchingOfWrongClients(t *testing.T) {
	c := example()
	c.Clients = 3
	g := made(t, c)
	send(t, g, 2, api.Common, "")
	send(t, g, 2, api.Urgent, "")
	step(t, g, api.Rushed)
	step(t, g, api.Served)
	for _, client := range []int{-1, 3, 7, 8, 9, 1 << 32, math.MaxInt, math.MinInt} {
		if a, e := g.Poll(client); a != (api.Answer{}) || e != api.ErrClient {
			t.Errorf("P5: Poll(%d) = %v, error %d", client, a, e)
		}
		if l, e := g.Acks(client); l != nil || e != api.ErrClient {
			t.Errorf("P5: Acks(%d) = %v, error %d", client, l, e)
		}
	}
	for client := range 2 {
		empty(t, g, client)
		acks(t, g, client)
	}
	polled(t, g, 2, 0, api.Size)
	empty(t, g, 2)
	empty(t, g, 2)
	acks(t, g, 2, api.Answer{Place: 0, Code: api.Size})
}

func TestStepsOfAGateThatIsNil(t *testing.T) {
	var g *sluice.Gate
	if n, e := g.Core(); n != 0 || e != api.ErrNil {
		t.Errorf("P1: Core of nil = %d, error %d", n, e)
	}
	for _, client := range []int{math.MinInt, -1, 0, 1, math.MaxInt} {
		if a, e := g.Poll(client); a != (api.Answer{}) || e != api.ErrNil {
			t.Errorf("P1: Poll(%d) of nil = %v, error %d", client, a, e)
		}
		if l, e := g.Acks(client); l != nil || e != api.ErrNil {
			t.Errorf("P1: Acks(%d) of nil = %v, error %d", client, l, e)
		}
	}
}

func TestStepsOfTwoGates(t *testing.T) {
	a, b := made(t, example()), made(t, example())
	answered(t, a, order(0, 0, 7, 1, 1, 1), api.Done)
	rushed(t, a, other(api.Kill, 0, 0), api.Done)
	send(t, a, 0, api.Common, "")
	step(t, b, api.Idle)
	answered(t, b, order(0, 0, 7, 1, 1, 1), api.Done)
	step(t, a, api.Served)
	send(t, a, 0, api.Urgent, "")
	step(t, a, api.Rushed)
	empty(t, b, 0)
	acks(t, b, 0)
	polled(t, a, 0, 1, api.Size)
}
