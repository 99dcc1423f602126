package ring

import "testing"

func claim(t *testing.T, l *Lane, client, want int) {
	t.Helper()
	if n, ok := l.Claim(client); n != want || !ok {
		t.Fatalf("P4: Claim(%d) = %d, %t, want %d", client, n, ok, want)
	}
}

func full(t *testing.T, l *Lane) {
	t.Helper()
	if n, ok := l.Claim(0); n != 0 || ok {
		t.Fatalf("P4: Claim of a full lane = %d, %t", n, ok)
	}
}

func fill(t *testing.T, l *Lane, client, place int, frame string, want bool) {
	t.Helper()
	if ok := l.Fill(client, place, frame); ok != want {
		t.Fatalf("P4: Fill(%d, %d) = %t, want %t", client, place, ok, want)
	}
}

func take(t *testing.T, l *Lane, want Taken) {
	t.Helper()
	if got, ok := l.Take(); got != want || !ok {
		t.Fatalf("Take = %v, %t, want %v", got, ok, want)
	}
}

func nothing(t *testing.T, l *Lane) {
	t.Helper()
	if got, ok := l.Take(); got != (Taken{}) || ok {
		t.Fatalf("Take where nothing can be taken = %v, %t", got, ok)
	}
}

func TestPlacesAreNumberedAsClaimed(t *testing.T) {
	for _, size := range []int{2, 4, 8, 16} {
		l := NewLane(size)
		for i := range size {
			claim(t, l, i%3, i)
		}
		full(t, l)
		full(t, l)
	}
}

func TestAPlaceIsFilledOnceByItsClient(t *testing.T) {
	l := NewLane(4)
	fill(t, l, 0, 0, "early", false)
	claim(t, l, 5, 0)
	claim(t, l, 6, 1)
	fill(t, l, 6, 0, "another's", false)
	fill(t, l, 5, 1, "another's", false)
	for _, place := range []int{2, 3, 4, 5, 8, 1 << 62, 1<<63 - 1, -1, -4, -1 << 63} {
		fill(t, l, 5, place, "never claimed", false)
	}
	fill(t, l, 5, 0, "a", true)
	fill(t, l, 5, 0, "again", false)
	fill(t, l, 6, 1, "", true)
	fill(t, l, 6, 1, "again", false)
	take(t, l, Taken{Place: 0, Client: 5, Frame: "a"})
	take(t, l, Taken{Place: 1, Client: 6, Frame: ""})
	nothing(t, l)
}

func TestBehindAPlaceNotFilledNothingIsTaken(t *testing.T) {
	l := NewLane(2)
	nothing(t, l)
	claim(t, l, 0, 0)
	claim(t, l, 0, 1)
	fill(t, l, 0, 1, "second", true)
	nothing(t, l)
	full(t, l)
	fill(t, l, 0, 0, "first", true)
	full(t, l)
	take(t, l, Taken{Place: 0, Client: 0, Frame: "first"})
	take(t, l, Taken{Place: 1, Client: 0, Frame: "second"})
	nothing(t, l)
}

func TestAPlaceTakenMakesOneFree(t *testing.T) {
	l := NewLane(2)
	claim(t, l, 0, 0)
	claim(t, l, 1, 1)
	fill(t, l, 0, 0, "a", true)
	take(t, l, Taken{Place: 0, Client: 0, Frame: "a"})
	fill(t, l, 0, 0, "taken", false)
	claim(t, l, 0, 2)
	full(t, l)
	// Places 0, 2 and 4 share a slot, and so would -2: only 2 is claimed and not taken.
	for _, place := range []int{0, 4, -2} {
		fill(t, l, 0, place, "of another round", false)
	}
	nothing(t, l)
	fill(t, l, 0, 2, "c", true)
	nothing(t, l)
	fill(t, l, 1, 1, "b", true)
	take(t, l, Taken{Place: 1, Client: 1, Frame: "b"})
	take(t, l, Taken{Place: 2, Client: 0, Frame: "c"})
}

func TestManyRounds(t *testing.T) {
	l := NewLane(4)
	for i := range 1000 {
		claim(t, l, i%3, i)
		nothing(t, l)
		fill(t, l, (i+1)%3, i, "another's", false)
		fill(t, l, i%3, i, "own", true)
		take(t, l, Taken{Place: i, Client: i % 3, Frame: "own"})
	}
}
