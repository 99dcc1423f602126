package settings

import (
	"math"
	"slices"
	"testing"

	"sluice/api"
)

func plain() api.Config {
	return api.Config{Clients: 2, Common: 2, Urgent: 4, Answers: 8, Checks: 3, Accounts: []api.Limits{
		{Large: 10, Long: 12, Short: 3, Worth: 1000, Rate: 2, Window: 5},
		{Large: 1, Long: 2, Short: 3, Worth: 4, Rate: 5, Window: 6},
	}}
}

// Each number of the settings is tried at every one of these, the others left as they are in plain.
var tries = [...]int{
	math.MinInt, math.MinInt + 1, -1 << 62, -16, -8, -4, -2, -1,
	0, 1, 2, 3, 4, 5, 6, 7, 8, 9, 12, 14, 15, 16, 17, 24, 31, 32, 33, 64,
	99, 100, 101, 128, 999, 1000, 1001, 1024, 1 << 32, 1<<32 + 2, 1 << 61,
	1<<62 - 1, 1 << 62, 1<<62 + 1, math.MaxInt - 1, math.MaxInt,
}

func TestEachNumberAtItsBounds(t *testing.T) {
	isRing := func(n int) bool { return slices.Contains([]int{2, 4, 8, 16}, n) }
	isLimit := func(n int) bool { return n >= 0 && n <= 4611686018427387904 }
	for _, field := range []struct {
		name  string
		of    func(c *api.Config) *int
		mayBe func(n int) bool
	}{
		{"Clients", func(c *api.Config) *int { return &c.Clients }, func(n int) bool { return n >= 1 && n <= 8 }},
		{"Common", func(c *api.Config) *int { return &c.Common }, isRing},
		{"Urgent", func(c *api.Config) *int { return &c.Urgent }, isRing},
		{"Answers", func(c *api.Config) *int { return &c.Answers }, isRing},
		{"Checks", func(c *api.Config) *int { return &c.Checks }, func(n int) bool { return n >= 1 && n <= 100 }},
		{"Large", func(c *api.Config) *int { return &c.Accounts[0].Large }, isLimit},
		{"Long", func(c *api.Config) *int { return &c.Accounts[0].Long }, isLimit},
		{"Short", func(c *api.Config) *int { return &c.Accounts[0].Short }, isLimit},
		{"Worth", func(c *api.Config) *int { return &c.Accounts[0].Worth }, isLimit},
		{"Rate", func(c *api.Config) *int { return &c.Accounts[0].Rate }, isLimit},
		{"Window", func(c *api.Config) *int { return &c.Accounts[0].Window }, func(n int) bool { return n >= 1 && n <= 1000 }},
		{"Window of the last account", func(c *api.Config) *int { return &c.Accounts[1].Window }, func(n int) bool { return n >= 1 && n <= 1000 }},
		{"Rate of the last account", func(c *api.Config) *int { return &c.Accounts[1].Rate }, isLimit},
	} {
		for _, n := range tries {
			c := plain()
			*field.of(&c) = n
			if got, want := MayBe(c), field.mayBe(n); got != want {
				t.Errorf("P3: %s %d: may be %t, want %t", field.name, n, got, want)
			}
		}
	}
}

func TestHowManyAccounts(t *testing.T) {
	for n := range 10 {
		c := plain()
		c.Accounts = make([]api.Limits, n)
		for i := range c.Accounts {
			c.Accounts[i].Window = 1
		}
		if got, want := MayBe(c), n >= 1 && n <= 4; got != want {
			t.Errorf("P3: %d accounts: may be %t, want %t", n, got, want)
		}
	}
	c := plain()
	c.Accounts = nil
	if MayBe(c) {
		t.Error("P3: accounts that are nil: may be")
	}
}

func TestOneWrongAccountAmongFour(t *testing.T) {
	for i := range 4 {
		c := plain()
		c.Accounts = slices.Repeat(c.Accounts, 2)
		if !MayBe(c) {
			t.Fatal("P3: four right accounts: may not be")
		}
		c.Accounts[i].Long = -1
		if MayBe(c) {
			t.Errorf("P3: account %d is wrong: may be", i)
		}
	}
}
