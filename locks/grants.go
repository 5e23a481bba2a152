package locks

import (
	"cmp"
	"slices"

	"pagemend/api"
)

// validGrant reports whether g may be in a table.
func validGrant(g api.Grant) bool {
	return g.Tx >= 1 && g.Tx <= api.MaxTx &&
		g.Lock.Page >= 0 && g.Lock.Page < api.MaxPages &&
		g.Lock.Slot >= 0 && g.Lock.Slot < api.Slots &&
		(g.Mode == api.Shared || g.Mode == api.Exclusive)
}

// validHeld reports whether all of these grants may be held. In ascending order those of one lock are neighbours, so that an exclusive one among several conflicts with a neighbour.
func validHeld(held []api.Grant) bool {
	for i, g := range held {
		if !validGrant(g) {
			return false
		}
		if i > 0 && (compare(held[i-1], g) >= 0 || conflict(held[i-1], g)) {
			return false
		}
	}
	return true
}

// validWaiting reports whether each transaction waits at most once, and for more than it holds. Held must be valid.
func validWaiting(t api.Locks) bool {
	waits := map[int]bool{}
	for _, g := range t.Waiting {
		if !validGrant(g) || waits[g.Tx] || modeIn(t.Held, g.Tx, g.Lock) >= g.Mode {
			return false
		}
		waits[g.Tx] = true
	}
	return true
}

// conflict reports whether two grants cannot be held at the same time.
func conflict(a, b api.Grant) bool {
	return a.Tx != b.Tx && a.Lock == b.Lock && (a.Mode == api.Exclusive || b.Mode == api.Exclusive)
}

// compare returns the order of two grants in Held.
func compare(a, b api.Grant) int {
	return cmp.Or(cmp.Compare(a.Lock.Page, b.Lock.Page), cmp.Compare(a.Lock.Slot, b.Lock.Slot), cmp.Compare(a.Tx, b.Tx))
}

// find returns where in an ascending list the grant of a transaction with a lock is, or belongs, and whether it is there.
func find(held []api.Grant, tx int, k api.Lock) (int, bool) {
	return slices.BinarySearchFunc(held, api.Grant{Tx: tx, Lock: k}, compare)
}

// modeIn returns in which mode a transaction has a lock in an ascending list, 0 if it does not.
func modeIn(held []api.Grant, tx int, k api.Lock) int {
	at, found := find(held, tx, k)
	if !found {
		return 0
	}
	return held[at].Mode
}

// waitingIn returns the grant of a transaction in a list of those that wait.
func waitingIn(waiting []api.Grant, tx int) (api.Grant, bool) {
	at := slices.IndexFunc(waiting, func(g api.Grant) bool { return g.Tx == tx })
	if at < 0 {
		return api.Grant{}, false
	}
	return waiting[at], true
}
