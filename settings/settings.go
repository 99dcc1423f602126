// Package settings: which settings of a gate may be.
package settings

import "sluice/api"

// MayBe tells whether a gate can be made of these settings.
func MayBe(c api.Config) bool {
	return within(c.Clients, 1, api.MaxClients) &&
		isRing(c.Common) && isRing(c.Urgent) && isRing(c.Answers) &&
		within(c.Checks, 1, api.MaxChecks) &&
		accountsMayBe(c.Accounts)
}

func accountsMayBe(accounts []api.Limits) bool {
	if !within(len(accounts), 1, api.MaxAccounts) {
		return false
	}
	for _, l := range accounts {
		if !limitsMayBe(l) {
			return false
		}
	}
	return true
}

func limitsMayBe(l api.Limits) bool {
	for _, n := range [...]int{l.Large, l.Long, l.Short, l.Worth, l.Rate} {
		if !within(n, 0, api.MaxLimit) {
			return false
		}
	}
	return within(l.Window, 1, api.MaxWindow)
}

// The bounds stand first, so that the bits are asked of small positive numbers alone.
func isRing(n int) bool {
	return within(n, 2, api.MaxRing) && n&(n-1) == 0
}

func within(n, low, high int) bool {
	return low <= n && n <= high
}
