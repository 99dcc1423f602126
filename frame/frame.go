// Package frame: what the bytes of a frame say.
package frame

import (
	"math"

	"sluice/api"
)

// The sides of an order.
const (
	Buys  = 0
	Sells = 1
)

// Said is what was read of a frame: a New, a Cancel, a Kill, an Unkill, or one that is Wrong. There are no others.
type Said interface {
	said()
}

// New asks for an order to be opened.
type New struct {
	Account, Side, Number int
	Price, Qty, Life      int
}

// Cancel asks for an order to be open no more.
type Cancel struct {
	Account, Number int
}

// Kill stops an account.
type Kill struct {
	Account int
}

// Unkill lets an account go on.
type Unkill struct {
	Account int
}

// Wrong is a frame that says nothing, and the code that tells why.
type Wrong struct {
	Code int
}

func (New) said()    {}
func (Cancel) said() {}
func (Kill) said()   {}
func (Unkill) said() {}
func (Wrong) said()  {}

// Read tells what a frame says that came through this lane of a gate with so many accounts.
func Read(lane int, accounts int, frame string) Said {
	if len(frame) != api.Frame {
		return Wrong{Code: api.Size}
	}
	f := split(frame)
	if code := f.code(lane, accounts); code != api.Done {
		return Wrong{Code: code}
	}
	return f.meaning()
}

// fields are the numbers of a frame as they stand there, right or wrong.
type fields struct {
	kind, account, side, rest int
	number                    int
	price, qty, life          uint64
}

func split(frame string) fields {
	return fields{
		kind:    int(frame[0]),
		account: int(frame[1]),
		side:    int(frame[2]),
		rest:    int(frame[3]),
		number:  int(number(frame[4:8])),
		price:   number(frame[8:16]),
		qty:     number(frame[16:24]),
		life:    number(frame[24:32]),
	}
}

// number reads up to eight bytes, the highest first.
func number(s string) uint64 {
	var n uint64
	for i := range len(s) {
		n = n<<8 | uint64(s[i])
	}
	return n
}

// code is the first thing that is wrong, in the document's order, or Done.
func (f fields) code(lane int, accounts int) int {
	switch {
	case !f.isOf(lane):
		return api.Kind
	case f.account >= accounts:
		return api.Account
	case f.kind == api.New && f.side > Sells:
		return api.Side
	case f.hasRest():
		return api.Rest
	case f.kind != api.New:
		return api.Done
	case !within(f.price, math.MaxInt64):
		return api.Price
	case !within(f.qty, math.MaxInt64):
		return api.Qty
	case !within(f.life, api.MaxLife):
		return api.Life
	}
	return api.Done
}

func (f fields) isOf(lane int) bool {
	if lane == api.Urgent {
		return f.kind == api.Kill || f.kind == api.Unkill
	}
	return f.kind == api.New || f.kind == api.Cancel
}

// hasRest tells whether something stands where a frame of its kind has nothing.
func (f fields) hasRest() bool {
	if f.rest != 0 {
		return true
	}
	if f.kind == api.New {
		return false
	}
	if f.side != 0 || f.price != 0 || f.qty != 0 || f.life != 0 {
		return true
	}
	return f.kind != api.Cancel && f.number != 0
}

// meaning is what fields say that are right.
func (f fields) meaning() Said {
	switch f.kind {
	case api.New:
		return New{
			Account: f.account, Side: f.side, Number: f.number,
			Price: int(f.price), Qty: int(f.qty), Life: int(f.life),
		}
	case api.Cancel:
		return Cancel{Account: f.account, Number: f.number}
	case api.Kill:
		return Kill{Account: f.account}
	}
	return Unkill{Account: f.account}
}

func within(n, high uint64) bool {
	return 1 <= n && n <= high
}
