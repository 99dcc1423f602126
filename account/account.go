// Package account: an account lets orders through or not, by its limits, and has those that are open.
package account

import (
	"math"
	"math/bits"

	"sluice/api"
	"sluice/frame"
)

// Account has limits and open orders, and may be stopped.
type Account struct {
	limits  api.Limits
	stopped bool
	open    orders
	taken   counts // of News, for Rate
}

// New makes an account that goes on and has no orders.
func New(limits api.Limits) *Account {
	return &Account{limits: limits, open: orders{numbered: map[int]*order{}}}
}

// Open lets a New through at this time, or not; it tells the code.
func (a *Account) Open(n frame.New, now int) int {
	code := a.judge(n, now)
	if code == api.Done {
		a.open.add(&order{number: n.Number, side: n.Side, qty: n.Qty, worth: n.Price * n.Qty, end: now + n.Life})
		a.taken.add(now)
	}
	return code
}

// Cancel lets an order be open no more; it tells the code.
func (a *Account) Cancel(number int) int {
	if !a.open.has(number) {
		return api.Unknown
	}
	a.open.remove(number)
	return api.Done
}

// End lets the orders be open no more that end at this time; those that ended earlier are gone already.
func (a *Account) End(now int) {
	a.open.end(now)
}

// Stop stops the account, also if it is stopped already.
func (a *Account) Stop() {
	a.stopped = true
}

// GoOn lets the account go on, also if it does so already.
func (a *Account) GoOn() {
	a.stopped = false
}

// judge finds the first limit that a New is beyond, in the document's order, or Done.
func (a *Account) judge(n frame.New, now int) int {
	own, ownFits := times(n.Price, n.Qty)
	worth, worthFits := plus(a.open.worth, own)
	qty, qtyFits := plus(a.open.qty[n.Side], n.Qty)
	switch {
	case a.stopped:
		return api.Killed
	case a.open.has(n.Number):
		return api.Twice
	case !ownFits || !worthFits || !qtyFits:
		return api.Over
	case n.Qty > a.limits.Large:
		return api.Large
	case n.Side == frame.Buys && qty > a.limits.Long:
		return api.Long
	case n.Side == frame.Sells && qty > a.limits.Short:
		return api.Short
	case worth > a.limits.Worth:
		return api.Worth
	case a.taken.after(now-a.limits.Window) >= a.limits.Rate:
		return api.Rate
	}
	return api.Done
}

// times multiplies numbers from 0 on, and tells whether the product is one that an int can hold; it is 0 if not.
func times(x, y int) (int, bool) {
	high, low := bits.Mul64(uint64(x), uint64(y))
	if high != 0 || low > math.MaxInt64 {
		return 0, false
	}
	return int(low), true
}

// plus adds numbers from 0 on, and tells whether the sum is one that an int can hold; it is 0 if not.
func plus(x, y int) (int, bool) {
	if x > math.MaxInt64-y {
		return 0, false
	}
	return x + y, true
}
