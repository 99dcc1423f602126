package sluice_test

import (
	"testing"

	"sluice/api"
	"sluice/sluice"
)

func ticks(t *testing.T, g *sluice.Gate, many int) {
	t.Helper()
	for range many {
		if e := g.Tick(); e != api.OK {
			t.Fatalf("P7: Tick: error %d", e)
		}
	}
}

// An order is open till the tick at which it ends, counted from the time at which it was taken.
func TestLives(t *testing.T) {
	for _, life := range []int{1, 2, 3, 1000} {
		for _, begin := range []int{0, 1, 5} {
			c := example()
			c.Accounts = []api.Limits{wide()}
			g := made(t, c)
			ticks(t, g, begin)
			answered(t, g, order(0, 0, 7, 1, 1, life), api.Done)
			ticks(t, g, life-1)
			answered(t, g, order(0, 0, 7, 1, 1, life), api.Twice)
			ticks(t, g, 1)
			answered(t, g, other(api.Cancel, 0, 7), api.Unknown)
			answered(t, g, order(0, 0, 7, 1, 1, 1), api.Done)
		}
	}
}

func TestTheLongestLife(t *testing.T) {
	c := example()
	c.Accounts = []api.Limits{wide()}
	g := made(t, c)
	ticks(t, g, 10)
	answered(t, g, order(0, 0, 7, 1, 1, api.MaxLife), api.Done)
	answered(t, g, order(0, 0, 8, 1, 1, api.MaxLife-1), api.Done)
	answered(t, g, order(0, 0, 9, 1, 1, api.MaxLife), api.Done)
	ticks(t, g, api.MaxLife-2)
	answered(t, g, order(0, 0, 8, 1, 1, 1), api.Twice)
	ticks(t, g, 1)
	answered(t, g, other(api.Cancel, 0, 8), api.Unknown)
	answered(t, g, order(0, 0, 7, 1, 1, 1), api.Twice)
	answered(t, g, other(api.Cancel, 0, 9), api.Done)
	ticks(t, g, 1)
	answered(t, g, other(api.Cancel, 0, 7), api.Unknown)
	answered(t, g, other(api.Cancel, 0, 9), api.Unknown)
}

// What ends lets go of its number, its quantity on its side, and its worth.
func TestWhatEndsCountsNoMore(t *testing.T) {
	c := example()
	c.Accounts = []api.Limits{{Large: 10, Long: 10, Short: 10, Worth: 50, Rate: 99, Window: 1}}
	g := made(t, c)
	answered(t, g, order(0, 0, 1, 1, 10, 1), api.Done)
	answered(t, g, order(0, 1, 2, 1, 10, 2), api.Done)
	answered(t, g, order(0, 0, 3, 1, 1, 1), api.Long)
	answered(t, g, order(0, 1, 3, 1, 1, 1), api.Short)
	ticks(t, g, 1)
	answered(t, g, order(0, 1, 3, 1, 1, 1), api.Short)
	answered(t, g, order(0, 0, 3, 41, 1, 1), api.Worth)
	answered(t, g, order(0, 0, 1, 4, 10, 1), api.Done)
	ticks(t, g, 1)
	answered(t, g, order(0, 1, 2, 51, 1, 1), api.Worth)
	answered(t, g, order(0, 1, 2, 5, 10, 1), api.Done)
}

// Some end at this tick, some at the next one; of those that end at one time all do.
func TestManyThatEndAtOneTime(t *testing.T) {
	c := example()
	c.Accounts = []api.Limits{wide(), wide()}
	g := made(t, c)
	for i := range 30 {
		answered(t, g, order(i%2, i/2%2, i, 1, 1, 2+i%3), api.Done)
	}
	ticks(t, g, 1)
	for i := range 30 {
		answered(t, g, order(i%2, 0, i, 1, 1, 1), api.Twice)
	}
	for now := 2; now <= 4; now++ {
		ticks(t, g, 1)
		for i := range 30 {
			want := api.Twice
			if 2+i%3 <= now {
				want = api.Done
			}
			answered(t, g, order(i%2, 0, i, 1, 1, 99), want)
			if want == api.Done {
				answered(t, g, other(api.Cancel, i%2, i), api.Done)
			}
		}
	}
}

// An order that was cancelled ahead of its end does not end once more, nor does another one with its number.
func TestCancelledAheadOfItsEnd(t *testing.T) {
	c := example()
	c.Accounts = []api.Limits{{Large: 9, Long: 9, Short: 9, Worth: 99, Rate: 99, Window: 1}}
	g := made(t, c)
	answered(t, g, order(0, 0, 1, 1, 9, 3), api.Done)
	answered(t, g, other(api.Cancel, 0, 1), api.Done)
	answered(t, g, order(0, 0, 1, 1, 8, 5), api.Done)
	ticks(t, g, 3)
	answered(t, g, order(0, 0, 1, 1, 1, 1), api.Twice)
	answered(t, g, order(0, 0, 2, 1, 2, 1), api.Long)
	answered(t, g, order(0, 0, 2, 1, 1, 1), api.Done)
	ticks(t, g, 2)
	answered(t, g, other(api.Cancel, 0, 1), api.Unknown)
	answered(t, g, order(0, 0, 3, 1, 9, 1), api.Done)
	answered(t, g, order(0, 0, 4, 1, 1, 1), api.Long)
}

// Orders of an account that is stopped end too.
func TestOrdersEndAlsoWhenStopped(t *testing.T) {
	g := made(t, example())
	answered(t, g, order(0, 0, 1, 1, 10, 2), api.Done)
	rushed(t, g, other(api.Kill, 0, 0), api.Done)
	ticks(t, g, 2)
	answered(t, g, other(api.Cancel, 0, 1), api.Unknown)
	rushed(t, g, other(api.Unkill, 0, 0), api.Done)
	answered(t, g, order(0, 0, 1, 1, 10, 2), api.Done)
}

// The life is counted from when the frame is taken, not from when it is published, nor from when its answer is laid down.
func TestTimeGoesOnWhileTheCoreWaits(t *testing.T) {
	c := example()
	c.Common = 4
	c.Accounts = []api.Limits{wide()}
	g := made(t, c)
	for i := range 3 {
		send(t, g, 0, api.Common, order(0, 0, i, 1, 1, 3))
	}
	send(t, g, 0, api.Common, other(api.Cancel, 0, 2))
	ticks(t, g, 5)
	step(t, g, api.Served)
	step(t, g, api.Served)
	step(t, g, api.Blocked)
	ticks(t, g, 2)
	polled(t, g, 0, 0, api.Done)
	polled(t, g, 0, 1, api.Done)
	step(t, g, api.Freed)
	polled(t, g, 0, 2, api.Done)
	step(t, g, api.Served)
	polled(t, g, 0, 3, api.Done)
	answered(t, g, order(0, 0, 1, 1, 1, 1), api.Twice)
	ticks(t, g, 1)
	answered(t, g, other(api.Cancel, 0, 0), api.Unknown)
	answered(t, g, other(api.Cancel, 0, 1), api.Unknown)
}

// A New that was taken counts for as many ticks as Window says, also if its order is open no more.
func TestWindows(t *testing.T) {
	for _, window := range []int{1, 2, 5, api.MaxWindow} {
		c := example()
		c.Accounts = []api.Limits{wide()}
		c.Accounts[0].Rate, c.Accounts[0].Window = 2, window
		g := made(t, c)
		answered(t, g, order(0, 0, 1, 1, 1, 1), api.Done)
		answered(t, g, order(0, 1, 2, 1, 1, api.MaxLife), api.Done)
		answered(t, g, other(api.Cancel, 0, 2), api.Done)
		for range window {
			answered(t, g, order(0, 0, 3, 1, 1, 1), api.Rate)
			ticks(t, g, 1)
		}
		answered(t, g, order(0, 0, 3, 1, 1, 1), api.Done)
		ticks(t, g, window-1)
		// One was taken at the window's first time, one is at its last.
		answered(t, g, order(0, 0, 4, 1, 1, 1), api.Done)
		answered(t, g, order(0, 0, 5, 1, 1, 1), api.Rate)
		ticks(t, g, 1)
		answered(t, g, order(0, 0, 5, 1, 1, 1), api.Done)
		next := api.Rate
		if window == 1 {
			next = api.Done // the one before it counts no more either
		}
		answered(t, g, order(0, 0, 6, 1, 1, 1), next)
	}
}
