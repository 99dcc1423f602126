package sluice_test

import (
	"encoding/binary"
	"fmt"
	"math/big"
	"math/rand"
	"slices"
	"testing"

	"sluice/api"
	"sluice/sluice"
)

// model is the document's words once more, by the plainest means: lists that only grow, and numbers that have no end.
type model struct {
	config  api.Config
	lanes   [2][]place
	taken   [2]int
	answers [][]api.Answer // not polled yet, by clients
	acks    [][]api.Answer
	waits   []waits // one at most
	orders  []openOrder
	stopped map[int]int
	news    []taken
	calls   []string // of Core, Tick and Watch, as far as it was a check
}

type place struct {
	client int
	filled bool
	frame  string
}

type waits struct {
	client int
	answer api.Answer
}

type openOrder struct{ account, number, side, price, qty, end int }

type taken struct{ account, time int }

func newModel(c api.Config) *model {
	return &model{config: c, answers: make([][]api.Answer, c.Clients), acks: make([][]api.Answer, c.Clients), stopped: map[int]int{}}
}

func (m *model) claim(client, lane int) (int, api.Errno) {
	if client < 0 || client >= m.config.Clients {
		return 0, api.ErrClient
	}
	if lane != 0 && lane != 1 {
		return 0, api.ErrLane
	}
	if m.shut() {
		return 0, api.ErrClosed
	}
	if len(m.lanes[lane])-m.taken[lane] == []int{m.config.Common, m.config.Urgent}[lane] {
		return 0, api.ErrFull
	}
	m.lanes[lane] = append(m.lanes[lane], place{client: client})
	return len(m.lanes[lane]) - 1, api.OK
}

func (m *model) publish(client, lane, n int, frame string) api.Errno {
	if client < 0 || client >= m.config.Clients {
		return api.ErrClient
	}
	if lane != 0 && lane != 1 {
		return api.ErrLane
	}
	if n < 0 || n >= len(m.lanes[lane]) || m.lanes[lane][n].client != client || m.lanes[lane][n].filled {
		return api.ErrTicket
	}
	m.lanes[lane][n] = place{client, true, frame}
	return api.OK
}

func (m *model) next(lane int) (place, int, bool) {
	n := m.taken[lane]
	if n == len(m.lanes[lane]) || !m.lanes[lane][n].filled {
		return place{}, 0, false
	}
	m.taken[lane]++
	return m.lanes[lane][n], n, true
}

func (m *model) core() int {
	m.calls = append(m.calls, "core")
	if p, n, ok := m.next(api.Urgent); ok {
		m.acks[p.client] = append(m.acks[p.client], api.Answer{Place: n, Code: m.urgent(p.frame)})
		return api.Rushed
	}
	result := api.Freed
	if len(m.waits) == 0 {
		p, n, ok := m.next(api.Common)
		if !ok {
			return api.Idle
		}
		m.waits = append(m.waits, waits{p.client, api.Answer{Place: n, Code: m.common(p.frame)}})
		result = api.Served
	}
	w := m.waits[0]
	if len(m.answers[w.client]) == m.config.Answers {
		return api.Blocked
	}
	m.answers[w.client] = append(m.answers[w.client], w.answer)
	m.waits = nil
	return result
}

func (m *model) time() int {
	n := 0
	for _, c := range m.calls {
		if c == "tick" {
			n++
		}
	}
	return n
}

func (m *model) tick() {
	m.calls = append(m.calls, "tick")
	m.orders = slices.DeleteFunc(m.orders, func(o openOrder) bool { return o.end == m.time() })
}

func (m *model) watch() bool {
	since := m.calls[1+lastOf(m.calls, "check"):]
	if slices.Contains(since, "tick") {
		m.calls = append(m.calls, "check")
	}
	return m.shut()
}

// shut goes through all checks from the beginning: it is shut if ever as many as Checks, one behind the other, had no step ahead of them.
func (m *model) shut() bool {
	misses, stepped := 0, false
	for _, c := range m.calls {
		switch {
		case c == "core":
			stepped = true
		case c == "check" && stepped:
			misses, stepped = 0, false
		case c == "check":
			misses++
		}
		if misses == m.config.Checks {
			return true
		}
	}
	return false
}

// lastOf tells where a word stands last in a list; -1, if it does not.
func lastOf(list []string, word string) int {
	for i := len(list) - 1; i >= 0; i-- {
		if list[i] == word {
			return i
		}
	}
	return -1
}

func (m *model) poll(client int) (api.Answer, api.Errno) {
	if client < 0 || client >= m.config.Clients {
		return api.Answer{}, api.ErrClient
	}
	if len(m.answers[client]) == 0 {
		return api.Answer{}, api.ErrEmpty
	}
	a := m.answers[client][0]
	m.answers[client] = m.answers[client][1:]
	return a, api.OK
}

func (m *model) allAcks(client int) ([]api.Answer, api.Errno) {
	if client < 0 || client >= m.config.Clients {
		return nil, api.ErrClient
	}
	l := m.acks[client]
	m.acks[client] = nil
	return l, api.OK
}

func (m *model) urgent(f string) int {
	switch {
	case len(f) != 32:
		return api.Size
	case f[0] != 3 && f[0] != 4:
		return api.Kind
	case int(f[1]) >= len(m.config.Accounts):
		return api.Account
	case f[2:] != string(make([]byte, 30)):
		return api.Rest
	}
	m.stopped[int(f[1])] = int(4 - f[0])
	return api.Done
}

func (m *model) common(f string) int {
	switch {
	case len(f) != 32:
		return api.Size
	case f[0] != 1 && f[0] != 2:
		return api.Kind
	case int(f[1]) >= len(m.config.Accounts):
		return api.Account
	case f[0] == 1 && f[2] > 1:
		return api.Side
	case f[3] != 0, f[0] == 2 && (f[2] != 0 || f[8:] != string(make([]byte, 24))):
		return api.Rest
	}
	number := int(binary.BigEndian.Uint32([]byte(f[4:8])))
	if f[0] == 1 {
		return m.open(int(f[1]), int(f[2]), number, []byte(f))
	}
	i := slices.IndexFunc(m.orders, func(o openOrder) bool { return o.account == int(f[1]) && o.number == number })
	if i < 0 {
		return api.Unknown
	}
	m.orders = slices.Delete(m.orders, i, i+1)
	return api.Done
}

func (m *model) open(account, side, number int, f []byte) int {
	// As signed numbers: what is above 2^63 - 1 is below 0.
	price, qty, life := int(binary.BigEndian.Uint64(f[8:])), int(binary.BigEndian.Uint64(f[16:])), int(binary.BigEndian.Uint64(f[24:]))
	l := m.config.Accounts[account]
	own := new(big.Int).Mul(big.NewInt(int64(price)), big.NewInt(int64(qty)))
	worth, sum, twice := own, big.NewInt(int64(qty)), false
	for _, o := range m.orders {
		if o.account != account {
			continue
		}
		worth = new(big.Int).Add(worth, new(big.Int).Mul(big.NewInt(int64(o.price)), big.NewInt(int64(o.qty))))
		if o.side == side {
			sum = new(big.Int).Add(sum, big.NewInt(int64(o.qty)))
		}
		twice = twice || o.number == number
	}
	news := 0
	for _, n := range m.news {
		if n.account == account && n.time > m.time()-l.Window {
			news++
		}
	}
	above := func(n *big.Int, limit int) bool { return n.Cmp(big.NewInt(int64(limit))) > 0 }
	for _, c := range []struct {
		holds bool
		code  int
	}{
		{price < 1, api.Price},
		{qty < 1, api.Qty},
		{life < 1 || life > 1000000, api.Life},
		{m.shut(), api.Shut},
		{m.stopped[account] == 1, api.Killed},
		{twice, api.Twice},
		{above(own, 1<<63-1) || above(worth, 1<<63-1) || above(sum, 1<<63-1), api.Over},
		{qty > l.Large, api.Large},
		{side == 0 && above(sum, l.Long), api.Long},
		{side == 1 && above(sum, l.Short), api.Short},
		{above(worth, l.Worth), api.Worth},
		{news >= l.Rate, api.Rate},
	} {
		if c.holds {
			return c.code
		}
	}
	m.news = append(m.news, taken{account, m.time()})
	m.orders = append(m.orders, openOrder{account, number, side, price, qty, m.time() + life})
	return api.Done
}

// anyFrame is mostly right, and now and then wrong somewhere.
func anyFrame(r *rand.Rand, lane int) string {
	sizes := []int{2, 5, 20, 1 << 31, 1 << 61, 1<<63 - 1}
	size := func() int { return 1 + r.Intn(sizes[min(r.Intn(9), r.Intn(9), len(sizes)-1)]) }
	f := order(r.Intn(2), r.Intn(2), r.Intn(8), size(), size(), 1+r.Intn(9))
	if lane == api.Urgent {
		f = other(3+r.Intn(2), r.Intn(2), 0)
	} else if r.Intn(3) == 0 {
		f = other(api.Cancel, r.Intn(2), r.Intn(8))
	}
	if r.Intn(6) == 0 {
		at, by := r.Intn(32), []byte{0, 1, 2, 3, 4, 127, 128, 255}[r.Intn(8)]
		f = f[:at] + string([]byte{by}) + f[at+1:]
	}
	if r.Intn(20) == 0 {
		f = f[:r.Intn(33)] + f[:r.Intn(3)]
	}
	return f
}

// Whatever calls are made, the gate answers as the model does.
func TestTheGateAndTheModelAgree(t *testing.T) {
	told := map[int]int{}
	for seed := range int64(200) {
		r := rand.New(rand.NewSource(seed))
		size := func() int { return 2 << r.Intn(4) }
		limit := func() int { return []int{0, 3, 20, 100, 1 << 40, 1 << 62}[r.Intn(6)] }
		c := api.Config{Clients: 1 + r.Intn(3), Common: size(), Urgent: size(), Answers: size(), Checks: []int{1, 2, 3, 100}[r.Intn(4)]}
		for range 2 {
			c.Accounts = append(c.Accounts, api.Limits{Large: limit(), Long: limit(), Short: limit(), Worth: limit(), Rate: limit(), Window: 1 + r.Intn(12)})
		}
		g, m := made(t, c), newModel(c)
		for i := range 600 {
			if wrong := oneCall(r, g, m, told); wrong != "" {
				t.Fatalf("seed %d, call %d: %s", seed, i, wrong)
			}
		}
	}
	for code := api.Done; code <= api.Unknown; code++ {
		if told[code] == 0 {
			t.Errorf("no answer had the code %d", code)
		}
	}
}

// oneCall makes one call of both; it tells where they do not agree.
func oneCall(r *rand.Rand, g *sluice.Gate, m *model, told map[int]int) string {
	client, lane := r.Intn(m.config.Clients+1), r.Intn(2)
	if r.Intn(50) == 0 {
		client, lane = r.Intn(20)-10, r.Intn(20)-10
	}
	switch r.Intn(20) {
	case 0, 1, 2, 3:
		a, e := g.Claim(client, lane)
		b, f := m.claim(client, lane)
		return unless(a == b && e == f, "P4: Claim(%d, %d) = %d, %d, want %d, %d", client, lane, a, e, b, f)
	case 4, 5, 6, 7, 8:
		frame, n := anyFrame(r, lane), 0
		if lane == 0 || lane == 1 {
			n = m.taken[lane] + r.Intn(18) - 1
			// Mostly a place that is there to be filled.
			if i := slices.IndexFunc(m.lanes[lane], func(p place) bool { return !p.filled }); i >= 0 && r.Intn(3) > 0 {
				n, client = i, m.lanes[lane][i].client
			}
		}
		e, f := g.Publish(client, lane, n, frame), m.publish(client, lane, n, frame)
		return unless(e == f, "P4: Publish(%d, %d, %d, %x) = %d, want %d", client, lane, n, frame, e, f)
	case 9, 10, 11, 12:
		a, e := g.Core()
		b := m.core()
		return unless(a == b && e == api.OK, "P5: Core = %d, %d, want %d", a, e, b)
	case 13:
		e := g.Tick()
		m.tick()
		return unless(e == api.OK, "P7: Tick = %d", e)
	case 14:
		a, e := g.Watch()
		b := m.watch()
		return unless(a == b && e == api.OK, "P7: Watch = %t, %d, want %t", a, e, b)
	case 15, 16, 17:
		a, e := g.Poll(client)
		b, f := m.poll(client)
		if f == api.OK {
			told[b.Code]++
		}
		return unless(a == b && e == f, "P5: Poll(%d) = %v, %d, want %v, %d", client, a, e, b, f)
	}
	a, e := g.Acks(client)
	b, f := m.allAcks(client)
	return unless(slices.Equal(a, b) && e == f, "P5: Acks(%d) = %v, %d, want %v, %d", client, a, e, b, f)
}

func unless(agree bool, format string, args ...any) string {
	if agree {
		return ""
	}
	return fmt.Sprintf(format, args...)
}
