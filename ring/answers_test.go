package ring

import (
	"testing"

	"sluice/api"
)

func lay(t *testing.T, r *Answers, n int, want bool) {
	t.Helper()
	if ok := r.Lay(api.Answer{Place: n, Code: n % 19}); ok != want {
		t.Fatalf("P5: Lay(%d) = %t, want %t", n, ok, want)
	}
}

func poll(t *testing.T, r *Answers, want int) {
	t.Helper()
	if a, ok := r.Poll(); a != (api.Answer{Place: want, Code: want % 19}) || !ok {
		t.Fatalf("P5: Poll = %v, %t, want place %d", a, ok, want)
	}
}

func empty(t *testing.T, r *Answers) {
	t.Helper()
	if a, ok := r.Poll(); a != (api.Answer{}) || ok {
		t.Fatalf("P5: Poll of an empty ring = %v, %t", a, ok)
	}
}

func TestARingOfAnswersIsFilledAndEmptied(t *testing.T) {
	for _, size := range []int{2, 4, 8, 16} {
		r := NewAnswers(size)
		empty(t, r)
		for round := range 5 {
			for i := range size {
				lay(t, r, 100*round+i, true)
			}
			lay(t, r, 99, false)
			lay(t, r, 99, false)
			for i := range size {
				poll(t, r, 100*round+i)
			}
			empty(t, r)
			empty(t, r)
		}
	}
}

func TestAnAnswerPolledMakesAPlaceFree(t *testing.T) {
	r := NewAnswers(2)
	lay(t, r, 0, true)
	for i := range 100 {
		lay(t, r, i+1, true)
		lay(t, r, 999, false)
		poll(t, r, i)
	}
	poll(t, r, 100)
	empty(t, r)
}
