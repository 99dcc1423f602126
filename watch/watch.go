// Package watch: a watch looks whether the core goes on, and shuts the gate if it does not.
package watch

// Watch has what was seen since the last check, and whether the gate is shut.
type Watch struct {
	checks  int           // so many misses, one behind the other, shut the gate
	misses  int           // how many there are by now, one behind the other
	ticked  bool          // since the last check, or since the beginning
	stepped bool          // since then, too
	shut    chan struct{} // closed when the gate is shut; nothing is ever sent
}

// New makes a watch of a gate that is open; no misses are seen yet.
func New(checks int) *Watch {
	return &Watch{checks: checks, shut: make(chan struct{})}
}

// Ticked tells the watch that time went on.
func (w *Watch) Ticked() {
	w.ticked = true
}

// Stepped tells the watch that the core took a step.
func (w *Watch) Stepped() {
	w.stepped = true
}

// Look makes a check, if time went on since the last one.
func (w *Watch) Look() {
	// A gate that is shut stays so, whatever comes: its channel is not to be closed once more.
	if !w.ticked || w.IsShut() {
		return
	}
	w.count()
	w.ticked, w.stepped = false, false
	if w.misses == w.checks {
		close(w.shut)
	}
}

// count lets a check be a miss, or the misses be none.
func (w *Watch) count() {
	if w.stepped {
		w.misses = 0
	} else {
		w.misses++
	}
}

// IsShut tells whether the gate is shut.
func (w *Watch) IsShut() bool {
	select {
	case <-w.shut:
		return true
	default:
		return false
	}
}
