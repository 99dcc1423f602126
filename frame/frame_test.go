package frame

import (
	"encoding/binary"
	"math"
	"strings"
	"testing"

	"sluice/api"
)

// lay writes a frame's numbers down, right or wrong.
func lay(kind, account, side, rest byte, number uint32, price, qty, life uint64) string {
	b := []byte{kind, account, side, rest}
	b = binary.BigEndian.AppendUint32(b, number)
	b = binary.BigEndian.AppendUint64(b, price)
	b = binary.BigEndian.AppendUint64(b, qty)
	return string(binary.BigEndian.AppendUint64(b, life))
}

func reads(t *testing.T, lane, accounts int, f string, want Said) {
	t.Helper()
	if got := Read(lane, accounts, f); got != want {
		t.Errorf("P5: Read(%d, %d, %x) = %#v, want %#v", lane, accounts, f, got, want)
	}
}

func TestFramesThatAreRight(t *testing.T) {
	// Every byte of a number differs, so that none can stand in another's place.
	reads(t, api.Common, 4, lay(api.New, 3, 1, 0, 0x01020304, 0x1112131415161718, 0x2122232425262728, 0x0d0e0f),
		New{Account: 3, Side: Sells, Number: 0x01020304, Price: 0x1112131415161718, Qty: 0x2122232425262728, Life: 0x0d0e0f})
	reads(t, api.Common, 1, lay(api.New, 0, 0, 0, 0, 1, 1, 1), New{Side: Buys, Price: 1, Qty: 1, Life: 1})
	reads(t, api.Common, 1, lay(api.New, 0, 0, 0, 1<<32-1, 1<<63-1, 1<<63-1, api.MaxLife),
		New{Number: 1<<32 - 1, Price: math.MaxInt64, Qty: math.MaxInt64, Life: 1000000})
	reads(t, api.Common, 4, lay(api.Cancel, 2, 0, 0, 0xf1f2f3f4, 0, 0, 0), Cancel{Account: 2, Number: 0xf1f2f3f4})
	reads(t, api.Common, 1, lay(api.Cancel, 0, 0, 0, 0, 0, 0, 0), Cancel{})
	reads(t, api.Urgent, 4, lay(api.Kill, 3, 0, 0, 0, 0, 0, 0), Kill{Account: 3})
	reads(t, api.Urgent, 4, lay(api.Unkill, 1, 0, 0, 0, 0, 0, 0), Unkill{Account: 1})
}

func TestFramesOfAnotherSize(t *testing.T) {
	right := lay(api.New, 0, 0, 0, 0, 1, 1, 1)
	for _, lane := range []int{api.Common, api.Urgent} {
		for n := range api.Frame {
			reads(t, lane, 1, right[:n], Wrong{api.Size})
			reads(t, lane, 1, strings.Repeat("\xff", n), Wrong{api.Size})
		}
		for _, more := range []string{"\x00", right, strings.Repeat("\xff", 1<<20)} {
			reads(t, lane, 1, right+more, Wrong{api.Size})
		}
	}
}

func TestEachLaneHasItsKinds(t *testing.T) {
	for kind := range 256 {
		// All else is wrong too: the kind is named first.
		f := string([]byte{byte(kind)}) + strings.Repeat("\xff", api.Frame-1)
		common, urgent := Wrong{api.Account}, Wrong{api.Account}
		if kind != api.New && kind != api.Cancel {
			common = Wrong{api.Kind}
		}
		if kind != api.Kill && kind != api.Unkill {
			urgent = Wrong{api.Kind}
		}
		reads(t, api.Common, 4, f, common)
		reads(t, api.Urgent, 4, f, urgent)
	}
}

func TestAccountsThatThereAreNot(t *testing.T) {
	for accounts := 1; accounts <= api.MaxAccounts; accounts++ {
		for n := range 256 {
			kill, cancel := Said(Kill{Account: n}), Said(Cancel{Account: n})
			if n >= accounts {
				kill, cancel = Wrong{api.Account}, Wrong{api.Account}
			}
			reads(t, api.Urgent, accounts, lay(api.Kill, byte(n), 0, 0, 0, 0, 0, 0), kill)
			reads(t, api.Common, accounts, lay(api.Cancel, byte(n), 0, 0, 0, 0, 0, 0), cancel)
		}
	}
	reads(t, api.Common, 2, lay(api.New, 2, 9, 9, 0, 0, 0, 0), Wrong{api.Account})
	reads(t, api.Common, 2, lay(api.Cancel, 2, 9, 9, 0, 0, 0, 0), Wrong{api.Account})
	reads(t, api.Urgent, 2, lay(api.Unkill, 2, 9, 9, 1, 0, 0, 0), Wrong{api.Account})
}

func TestNewsThatAreWrong(t *testing.T) {
	for _, side := range []byte{2, 3, 128, 255} {
		reads(t, api.Common, 1, lay(api.New, 0, side, 0, 0, 1, 1, 1), Wrong{api.Side})
		reads(t, api.Common, 1, lay(api.New, 0, side, 9, 0, 0, 0, 0), Wrong{api.Side})
	}
	for _, rest := range []byte{1, 128, 255} {
		reads(t, api.Common, 1, lay(api.New, 0, 1, rest, 0, 1, 1, 1), Wrong{api.Rest})
		reads(t, api.Common, 1, lay(api.New, 0, 0, rest, 0, 0, 0, 0), Wrong{api.Rest})
	}
	for _, n := range []uint64{0, 1 << 63, 1<<63 + 1, 1<<64 - 1} {
		reads(t, api.Common, 1, lay(api.New, 0, 0, 0, 0, n, 1, 1), Wrong{api.Price})
		reads(t, api.Common, 1, lay(api.New, 0, 0, 0, 0, n, 0, 0), Wrong{api.Price})
		reads(t, api.Common, 1, lay(api.New, 0, 0, 0, 0, 1, n, 1), Wrong{api.Qty})
		reads(t, api.Common, 1, lay(api.New, 0, 0, 0, 0, 1, n, 0), Wrong{api.Qty})
		reads(t, api.Common, 1, lay(api.New, 0, 0, 0, 0, 1, 1, n), Wrong{api.Life})
	}
	for _, n := range []uint64{api.MaxLife + 1, 1 << 32, 1<<63 - 1} {
		reads(t, api.Common, 1, lay(api.New, 0, 0, 0, 0, 1, 1, n), Wrong{api.Life})
	}
}

func TestNothingStandsInTheRest(t *testing.T) {
	for _, c := range []struct{ lane, kind int }{{api.Common, api.Cancel}, {api.Urgent, api.Kill}, {api.Urgent, api.Unkill}} {
		for at := 2; at < api.Frame; at++ {
			for _, b := range []byte{1, 128, 255} {
				f := []byte(lay(byte(c.kind), 1, 0, 0, 0, 0, 0, 0))
				f[at] = b
				if c.kind == api.Cancel && at >= 4 && at < 8 {
					reads(t, c.lane, 2, string(f), Cancel{Account: 1, Number: int(b) << (8 * (7 - at))})
					continue
				}
				reads(t, c.lane, 2, string(f), Wrong{api.Rest})
			}
		}
	}
}
