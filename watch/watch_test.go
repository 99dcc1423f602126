package watch

import "testing"

// look looks once, and tells whether the watch finds the gate shut as wanted.
func look(t *testing.T, w *Watch, want bool) {
	t.Helper()
	w.Look()
	if got := w.IsShut(); got != want {
		t.Fatalf("P7: shut: %t, want %t", got, want)
	}
}

func miss(t *testing.T, w *Watch, want bool) {
	t.Helper()
	w.Ticked()
	look(t, w, want)
}

func TestANewGateIsOpen(t *testing.T) {
	w := New(1)
	if w.IsShut() || w.IsShut() {
		t.Error("P3: a new gate is shut")
	}
}

func TestAsManyMissesAsChecks(t *testing.T) {
	for checks := 1; checks <= 100; checks++ {
		w := New(checks)
		for range checks - 1 {
			miss(t, w, false)
		}
		miss(t, w, true)
	}
}

func TestNoCheckWithoutATick(t *testing.T) {
	w := New(2)
	for range 5 {
		look(t, w, false)
	}
	miss(t, w, false)
	for range 5 {
		look(t, w, false)
	}
	miss(t, w, true)
}

// Many ticks between two checks are as good as one.
func TestManyTicksAreOneCheck(t *testing.T) {
	w := New(3)
	for i := range 3 {
		for range 10 {
			w.Ticked()
		}
		look(t, w, i == 2)
	}
}

func TestAStepLetsTheMissesBeNone(t *testing.T) {
	w := New(3)
	for range 10 {
		miss(t, w, false)
		miss(t, w, false)
		w.Stepped()
		miss(t, w, false)
	}
	miss(t, w, false)
	miss(t, w, false)
	miss(t, w, true)
}

// A step counts for the next check, and for that one alone: also if the watch looked in between, without a tick.
func TestAStepCountsForOneCheck(t *testing.T) {
	w := New(1)
	w.Stepped()
	w.Stepped()
	look(t, w, false)
	look(t, w, false)
	miss(t, w, false)
	w.Ticked()
	w.Stepped()
	look(t, w, false)
	look(t, w, false)
	miss(t, w, true)
}

func TestShutForGood(t *testing.T) {
	w := New(2)
	miss(t, w, false)
	miss(t, w, true)
	for range 10 {
		w.Stepped()
		miss(t, w, true)
		look(t, w, true)
		miss(t, w, true)
		miss(t, w, true)
	}
}
