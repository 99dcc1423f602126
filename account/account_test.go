package account

import (
	"math"
	"math/big"
	"math/rand"
	"testing"

	"sluice/api"
	"sluice/frame"
)

// wide has limits that only Over stands ahead of.
func wide() api.Limits {
	return api.Limits{Large: api.MaxLimit, Long: api.MaxLimit, Short: api.MaxLimit, Worth: api.MaxLimit, Rate: api.MaxLimit, Window: 1}
}

func buy(number, price, qty int) frame.New {
	return frame.New{Side: frame.Buys, Number: number, Price: price, Qty: qty, Life: 1000}
}

func sell(number, price, qty int) frame.New {
	return frame.New{Side: frame.Sells, Number: number, Price: price, Qty: qty, Life: 1000}
}

func opens(t *testing.T, a *Account, n frame.New, now, want int) {
	t.Helper()
	if code := a.Open(n, now); code != want {
		t.Fatalf("P5: Open(%+v, %d) = %d, want %d", n, now, code, want)
	}
}

func cancels(t *testing.T, a *Account, number, want int) {
	t.Helper()
	if code := a.Cancel(number); code != want {
		t.Fatalf("P5: Cancel(%d) = %d, want %d", number, code, want)
	}
}

func TestEachLimitAtAndBeyond(t *testing.T) {
	a := New(api.Limits{Large: 10, Long: 12, Short: 8, Worth: 1000, Rate: 9, Window: 5})
	opens(t, a, buy(1, 1, 11), 0, api.Large)
	opens(t, a, buy(1, 5, 10), 0, api.Done)
	opens(t, a, buy(2, 1, 3), 0, api.Long)
	opens(t, a, sell(2, 1, 9), 0, api.Short)
	opens(t, a, sell(2, 1, 11), 0, api.Large)
	// Those that sell do not count against those that buy.
	opens(t, a, sell(2, 1, 8), 0, api.Done)
	opens(t, a, sell(3, 1, 1), 0, api.Short)
	opens(t, a, buy(3, 472, 2), 0, api.Worth)
	opens(t, a, buy(3, 471, 2), 0, api.Done)
	opens(t, a, buy(4, 1, 1), 0, api.Long)
}

func TestLimitsOfZero(t *testing.T) {
	for i, c := range []struct {
		limits     api.Limits
		buys, sels int
	}{
		{api.Limits{Window: 1}, api.Large, api.Large},
		{api.Limits{Large: 1, Window: 1}, api.Long, api.Short},
		{api.Limits{Large: 1, Long: 1, Window: 1}, api.Worth, api.Short},
		{api.Limits{Large: 1, Short: 1, Window: 1}, api.Long, api.Worth},
		{api.Limits{Large: 1, Long: 1, Short: 1, Worth: 1, Window: 1}, api.Rate, api.Rate},
	} {
		a := New(c.limits)
		for now := range 3 {
			if x, y := a.Open(buy(1, 1, 1), now), a.Open(sell(1, 1, 1), now); x != c.buys || y != c.sels {
				t.Errorf("P5: limits %d: %d, %d, want %d, %d", i, x, y, c.buys, c.sels)
			}
		}
		cancels(t, a, 1, api.Unknown)
	}
}

func TestOver(t *testing.T) {
	for i, c := range []struct{ price, qty, want int }{
		{1, 1, api.Done},
		{1 << 31, 1 << 31, api.Done},        // 2^62
		{1, api.MaxLimit, api.Done},         // at Large, Long and Worth
		{1, api.MaxLimit + 1, api.Large},    // beyond all three
		{api.MaxLimit, 1, api.Done},         // at Worth
		{api.MaxLimit + 1, 1, api.Worth},    // beyond it
		{1, math.MaxInt64, api.Large},       // 2^63 - 1
		{math.MaxInt64, 1, api.Worth},       // 2^63 - 1
		{7, 1317624576693539401, api.Worth}, // 2^63 - 1
		{1<<31 + 1, 1<<32 - 2, api.Worth},   // 2^63 - 2
		{1 << 32, 1 << 31, api.Over},        // 2^63
		{api.MaxLimit, 2, api.Over},         // 2^63
		{2, api.MaxLimit, api.Over},         // 2^63
		{math.MaxInt64/3 + 1, 3, api.Over},  // 2^63 + 1
		{6148914691236517205, 3, api.Over},  // 2^64 - 1
		{1 << 32, 1 << 32, api.Over},        // 2^64, whose lower half is 0
		{3, 6148914691236517206, api.Over},  // 2^64 + 2, whose lower half is 2
		{math.MaxInt64, 2, api.Over},
		{2, math.MaxInt64, api.Over},
		{1 << 62, 1 << 62, api.Over},
		{math.MaxInt64, math.MaxInt64, api.Over}, // its lower half is 1
	} {
		for side := range 2 {
			a := New(wide())
			opens(t, a, frame.New{Side: side, Number: i, Price: c.price, Qty: c.qty, Life: 1}, 0, c.want)
		}
	}
}

// What is open already counts for Over: the worth of both sides, the quantities of one.
func TestOverTogether(t *testing.T) {
	a := New(wide())
	opens(t, a, sell(1, 1, api.MaxLimit), 0, api.Done)
	opens(t, a, sell(2, 1, api.MaxLimit), 0, api.Over)
	opens(t, a, sell(2, 1, api.MaxLimit-1), 0, api.Short)
	opens(t, a, buy(2, 1, api.MaxLimit), 0, api.Over)
	opens(t, a, buy(2, 1, api.MaxLimit-1), 0, api.Worth)
	opens(t, a, buy(2, api.MaxLimit, 1), 0, api.Over)
	opens(t, a, buy(2, api.MaxLimit-1, 1), 0, api.Worth)
	opens(t, a, buy(2, 1, 1), 0, api.Worth)
	cancels(t, a, 1, api.Done)
	opens(t, a, buy(2, 1, api.MaxLimit), 0, api.Done)
}

// The earlier a reason is named, the earlier it is told.
func TestTheFirstReasonIsTold(t *testing.T) {
	a := New(api.Limits{Large: 5, Long: 5, Short: 5, Worth: 10, Rate: 1, Window: 1})
	opens(t, a, buy(7, 1, 5), 0, api.Done)
	opens(t, a, buy(8, 1, 1), 0, api.Long)
	opens(t, a, sell(8, 6, 1), 0, api.Worth)
	opens(t, a, sell(8, 5, 1), 0, api.Rate)
	opens(t, a, sell(8, 1, 6), 0, api.Large)
	opens(t, a, buy(8, 1, 6), 0, api.Large)
	opens(t, a, buy(8, 1000, 5), 0, api.Long)
	opens(t, a, sell(8, math.MaxInt64, 6), 0, api.Over)
	opens(t, a, sell(8, 1, math.MaxInt64), 0, api.Over)
	opens(t, a, sell(7, math.MaxInt64, 6), 0, api.Twice)
	a.Stop()
	opens(t, a, sell(7, math.MaxInt64, 6), 0, api.Killed)
	opens(t, a, sell(8, 1, 1), 0, api.Killed)
}

func TestCancel(t *testing.T) {
	a := New(api.Limits{Large: 5, Long: 5, Short: 5, Worth: 25, Rate: 9, Window: 1})
	cancels(t, a, 0, api.Unknown)
	opens(t, a, buy(0, 5, 5), 0, api.Done)
	opens(t, a, sell(1<<32-1, 1, 1), 0, api.Worth)
	cancels(t, a, 1<<32-1, api.Unknown)
	cancels(t, a, 1, api.Unknown)
	cancels(t, a, 0, api.Done)
	cancels(t, a, 0, api.Unknown)
	// Its number, its quantity and its worth are free again.
	opens(t, a, sell(0, 5, 5), 0, api.Done)
	a.Stop()
	cancels(t, a, 0, api.Done)
	cancels(t, a, 0, api.Unknown)
}

func TestStopAndGoOn(t *testing.T) {
	a := New(wide())
	a.GoOn()
	opens(t, a, buy(1, 1, 1), 0, api.Done)
	a.Stop()
	a.Stop()
	opens(t, a, buy(2, 1, 1), 0, api.Killed)
	a.GoOn()
	opens(t, a, buy(1, 1, 1), 0, api.Twice)
	opens(t, a, buy(2, 1, 1), 0, api.Done)
}

// Only Done counts, and an order that is open no more counts still.
func TestRateCountsNewsThatWereTaken(t *testing.T) {
	a := New(api.Limits{Large: 1, Long: 1, Short: 1, Worth: 100, Rate: 3, Window: 2})
	for range 5 {
		opens(t, a, buy(1, 1, 2), 0, api.Large)
	}
	for range 3 {
		opens(t, a, buy(1, 1, 1), 0, api.Done)
		opens(t, a, buy(1, 1, 1), 0, api.Twice)
		cancels(t, a, 1, api.Done)
	}
	for range 3 {
		opens(t, a, buy(1, 1, 1), 0, api.Rate)
	}
	cancels(t, a, 1, api.Unknown)
}

func TestRateWithinItsWindow(t *testing.T) {
	a := New(api.Limits{Large: 1, Long: 99, Short: 99, Worth: 99, Rate: 3, Window: 4})
	opens(t, a, buy(1, 1, 1), 0, api.Done)
	opens(t, a, buy(2, 1, 1), 2, api.Done)
	opens(t, a, buy(3, 1, 1), 2, api.Done)
	opens(t, a, buy(4, 1, 1), 3, api.Rate)
	opens(t, a, buy(4, 1, 1), 4, api.Done)
	opens(t, a, buy(5, 1, 1), 4, api.Rate)
	opens(t, a, buy(5, 1, 1), 5, api.Rate)
	opens(t, a, buy(5, 1, 1), 6, api.Done)
	opens(t, a, buy(6, 1, 1), 6, api.Done)
	opens(t, a, buy(7, 1, 1), 7, api.Rate)
	opens(t, a, buy(7, 1, 1), 1000000, api.Done)
}

// Of News at many times no more is kept than a window of them.
func TestNoMoreIsCountedThanAWindow(t *testing.T) {
	l := wide()
	l.Window = 10
	a := New(l)
	for now := range 1000 {
		opens(t, a, buy(now, 1, 1), now, api.Done)
		opens(t, a, sell(1000+now, 1, 1), now, api.Done)
	}
	if len(a.taken) > l.Window || a.taken.after(989) != 20 {
		t.Errorf("P5: %d times are kept, %d News counted", len(a.taken), a.taken.after(989))
	}
}

// lives has one order for each life; its number is the life.
func lives(t *testing.T, a *Account, now int, list ...int) {
	t.Helper()
	for _, life := range list {
		opens(t, a, frame.New{Side: life % 2, Number: life, Price: 3, Qty: 2, Life: life}, now, api.Done)
	}
}

func TestEnd(t *testing.T) {
	a := New(wide())
	a.End(1)
	lives(t, a, 1, 5, 2, 1, 4, 3)
	a.End(1)
	for now := 2; now <= 6; now++ {
		for number := 1; number <= 5; number++ {
			if want := number+1 >= now; a.open.has(number) != want {
				t.Fatalf("P7: at %d order %d is open: %t", now-1, number, !want)
			}
		}
		a.End(now)
		left := 6 - now
		if len(a.open.byEnd) != left || len(a.open.numbered) != left || a.open.worth != 6*left || a.open.qty[0]+a.open.qty[1] != 2*left {
			t.Fatalf("P7: at %d, %d should be open: %+v", now, left, a.open)
		}
	}
	if a.open.qty != [2]int{} {
		t.Errorf("P7: nothing is open, and the quantities are %v", a.open.qty)
	}
}

// All that end at one time end, also if others lie in the heap with them; what was cancelled is not there to end.
func TestManyEndAtOneTime(t *testing.T) {
	a := New(wide())
	for i := range 60 {
		n := buy(i, 1, 1)
		n.Life = 10 * (1 + i%3)
		opens(t, a, n, 0, api.Done)
	}
	cancels(t, a, 0, api.Done)
	cancels(t, a, 59, api.Done)
	for now := 1; now <= 30; now++ {
		a.End(now)
		want := []int{58, 39, 19, 0}[now/10]
		if len(a.open.byEnd) != want || a.open.qty[frame.Buys] != want {
			t.Fatalf("P7: at %d %d are open, %d lie in the heap, want %d", now, a.open.qty[frame.Buys], len(a.open.byEnd), want)
		}
	}
}

// The News that were taken count for Rate also when their orders have ended.
func TestRateCountsOrdersThatEnded(t *testing.T) {
	l := wide()
	l.Rate, l.Window = 2, 3
	a := New(l)
	lives(t, a, 0, 1, 2)
	a.End(1)
	a.End(2)
	opens(t, a, buy(9, 1, 1), 2, api.Rate)
	a.End(3)
	opens(t, a, buy(9, 1, 1), 3, api.Done)
}

func TestTheFirstToEndIsOnTop(t *testing.T) {
	r := rand.New(rand.NewSource(1))
	a := New(wide())
	ends := map[int]int{}
	for i := range 2000 {
		number := r.Intn(50)
		if _, ok := ends[number]; ok {
			cancels(t, a, number, api.Done)
			delete(ends, number)
		} else {
			n := frame.New{Side: r.Intn(2), Number: number, Price: 1, Qty: 1, Life: 1 + r.Intn(20)}
			opens(t, a, n, i/10, api.Done)
			ends[number] = i/10 + n.Life
		}
		h := a.open.byEnd
		if len(h) != len(ends) {
			t.Fatalf("%d orders lie in the heap, %d are open", len(h), len(ends))
		}
		for at, o := range h {
			if o.at != at || ends[o.number] != o.end || o.end < h[0].end {
				t.Fatalf("order %d ends at %d, on top is one that ends at %d", o.number, o.end, h[0].end)
			}
		}
	}
}

// Whatever is asked for, what is open stays within the limits, counted in numbers that have no end.
func TestNothingIsOpenBeyondTheLimits(t *testing.T) {
	r := rand.New(rand.NewSource(2))
	sizes := []int{1, 2, 3, 10, 1 << 20, 1 << 31, 1 << 32, 1 << 61, 1 << 62, 1<<63 - 1}
	for range 60 {
		pick := func() int { return min(sizes[r.Intn(len(sizes))], api.MaxLimit) }
		l := api.Limits{Large: pick(), Long: pick(), Short: pick(), Worth: pick(), Rate: pick(), Window: 1}
		a := New(l)
		open := map[int]frame.New{}
		done := 0
		for range 500 {
			n := frame.New{Side: r.Intn(2), Number: r.Intn(30), Price: 1 + r.Intn(sizes[r.Intn(len(sizes))]), Qty: 1 + r.Intn(sizes[r.Intn(len(sizes))]), Life: 1}
			if r.Intn(3) == 0 && a.Cancel(n.Number) == api.Done {
				delete(open, n.Number)
			} else if a.Open(n, 0) == api.Done {
				open[n.Number] = n
				done++
			}
			within(t, l, open)
		}
		if done > l.Rate {
			t.Fatalf("P11: %d News were taken at one time, Rate is %d", done, l.Rate)
		}
	}
}

func within(t *testing.T, l api.Limits, open map[int]frame.New) {
	t.Helper()
	var qty [2]big.Int
	var worth big.Int
	for _, n := range open {
		q := big.NewInt(int64(n.Qty))
		qty[n.Side].Add(&qty[n.Side], q)
		worth.Add(&worth, q.Mul(q, big.NewInt(int64(n.Price))))
		if n.Qty > l.Large {
			t.Fatalf("P11: an order of %d is open, Large is %d", n.Qty, l.Large)
		}
	}
	for i, limit := range []int{l.Long, l.Short} {
		if qty[i].Cmp(big.NewInt(int64(limit))) > 0 {
			t.Fatalf("P11: on side %d are %v, the limit is %d", i, &qty[i], limit)
		}
	}
	if worth.Cmp(big.NewInt(int64(l.Worth))) > 0 {
		t.Fatalf("P11: all are worth %v, the limit is %d", &worth, l.Worth)
	}
}
