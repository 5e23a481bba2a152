package locks

import (
	"cmp"
	"math/rand"
	"slices"
	"testing"

	"pagemend/api"
)

// plainConflict reports whether two grants conflict, as the chapter says it.
func plainConflict(a, b api.Grant) bool {
	return a.Tx != b.Tx && a.Lock == b.Lock && a.Mode+b.Mode > 2*api.Shared
}

// plainValid reports whether a table is valid, as the chapter says it, for grants that are.
func plainValid(t api.Locks) bool {
	for i, g := range t.Held {
		for _, h := range t.Held[:i] {
			before := []int{h.Lock.Page, h.Lock.Slot, h.Tx}
			if slices.Compare(before, []int{g.Lock.Page, g.Lock.Slot, g.Tx}) >= 0 || plainConflict(h, g) {
				return false
			}
		}
	}
	for i, g := range t.Waiting {
		for _, w := range t.Waiting[:i] {
			if w.Tx == g.Tx {
				return false
			}
		}
		if plainMode(t, g.Tx, g.Lock) >= g.Mode {
			return false
		}
	}
	return len(t.Held)+len(t.Waiting) <= api.MaxLocks
}

// plainMode returns in which mode a transaction holds a lock.
func plainMode(t api.Locks, tx int, k api.Lock) int {
	for _, h := range t.Held {
		if h.Tx == tx && h.Lock == k {
			return h.Mode
		}
	}
	return 0
}

// plainBlocked reports whether what waits at a place cannot be held.
func plainBlocked(t api.Locks, at int) bool {
	for _, h := range slices.Concat(t.Held, t.Waiting[:at]) {
		if plainConflict(h, t.Waiting[at]) {
			return true
		}
	}
	return false
}

// plainSettle moves one grant after the other, from the front again each time.
func plainSettle(t api.Locks) api.Locks {
	for at := 0; at < len(t.Waiting); at++ {
		if plainBlocked(t, at) {
			continue
		}
		g := t.Waiting[at]
		held := []api.Grant{g}
		for _, h := range t.Held {
			if h.Tx != g.Tx || h.Lock != g.Lock {
				held = append(held, h)
			}
		}
		slices.SortFunc(held, func(a, b api.Grant) int {
			return cmp.Compare(a.Lock.Page*1000+a.Lock.Slot*10+a.Tx, b.Lock.Page*1000+b.Lock.Slot*10+b.Tx)
		})
		t = api.Locks{Held: held, Waiting: slices.Concat(t.Waiting[:at], t.Waiting[at+1:])}
		at = -1
	}
	return t
}

// plainRequest does what Request does, for a valid grant.
func plainRequest(t api.Locks, g api.Grant) (api.Locks, bool, api.Errno) {
	if !plainValid(t) {
		return api.Locks{}, false, api.ErrLock
	}
	for _, w := range t.Waiting {
		if w == g {
			return t, false, api.OK
		}
		if w.Tx == g.Tx {
			return api.Locks{}, false, api.ErrState
		}
	}
	mode := plainMode(t, g.Tx, g.Lock)
	if mode >= g.Mode {
		return t, true, api.OK
	}
	var before, behind []api.Grant
	for _, w := range t.Waiting {
		if len(behind) > 0 || mode > 0 && w.Lock == g.Lock && plainMode(t, w.Tx, w.Lock) == 0 {
			behind = append(behind, w)
		} else {
			before = append(before, w)
		}
	}
	t.Waiting = slices.Concat(before, []api.Grant{g}, behind)
	t = plainSettle(t)
	return t, plainMode(t, g.Tx, g.Lock) == g.Mode, api.OK
}

// plainWithout removes the grants of a transaction from a table: from which lists, and of which locks.
func plainWithout(t api.Locks, tx int, held, waiting bool, of func(api.Lock) bool) api.Locks {
	if !plainValid(t) {
		return t
	}
	var left api.Locks
	for _, h := range t.Held {
		if !held || h.Tx != tx || !of(h.Lock) {
			left.Held = append(left.Held, h)
		}
	}
	for _, w := range t.Waiting {
		if !waiting || w.Tx != tx {
			left.Waiting = append(left.Waiting, w)
		}
	}
	return plainSettle(left)
}

// checkPlain checks all functions for a table, a transaction and a lock.
func checkPlain(t *testing.T, l api.Locks, tx int, k api.Lock) {
	t.Helper()
	valid := plainValid(l)
	if Valid(l) != valid {
		t.Errorf("Valid(%v): %t", l, !valid)
	}
	if m := Mode(l, tx, k); valid && m != plainMode(l, tx, k) || !valid && m != 0 {
		t.Errorf("Mode(%v, %d, %v): %d", l, tx, k, m)
	}
	for _, mode := range []int{api.Shared, api.Exclusive} {
		g := api.Grant{Tx: tx, Lock: k, Mode: mode}
		want, wantHolds, wantError := plainRequest(l, g)
		got, holds, e := Request(l, g)
		checkTable(t, "request", got, want)
		if holds != wantHolds || e != wantError {
			t.Errorf("Request(%v, %v): %t, %d, want %t, %d", l, g, holds, e, wantHolds, wantError)
		}
	}
	every := func(api.Lock) bool { return true }
	checkTable(t, "cancel", Cancel(l, tx), plainWithout(l, tx, false, true, every))
	checkTable(t, "drop", Drop(l, tx, k), plainWithout(l, tx, true, false, func(o api.Lock) bool { return o == k }))
	checkTable(t, "release", Release(l, tx), plainWithout(l, tx, true, true, every))
}

// listsOf calls do for all lists of up to size grants out of these.
func listsOf(of []api.Grant, size int, do func([]api.Grant)) {
	var grow func([]api.Grant)
	grow = func(list []api.Grant) {
		do(list)
		if len(list) < size {
			for _, g := range of {
				grow(append(slices.Clip(list), g))
			}
		}
	}
	grow(nil)
}

// TestAllOfOneLock checks P8.1 to P8.3 with all tables of one lock and three transactions that hold at most two grants, and wait for at most three.
func TestAllOfOneLock(t *testing.T) {
	all, valid := 0, 0
	of := grants("1as 1ax 2as 2ax 3as 3ax")
	listsOf(of, 2, func(held []api.Grant) {
		listsOf(of, 3, func(waiting []api.Grant) {
			l := api.Locks{Held: held, Waiting: waiting}
			all++
			if !plainValid(l) && all%5 != 0 { // of these a part is enough
				if Valid(l) {
					t.Errorf("valid: %v", l)
				}
				return
			}
			if plainValid(l) {
				valid++
			}
			for tx := 1; tx <= 3; tx++ {
				checkPlain(t, l, tx, lock('a'))
			}
		})
	})
	if valid < 300 {
		t.Errorf("only %d of %d tables are valid", valid, all)
	}
}

// randomTable returns a table of four locks and six transactions that is often valid, and not settled.
func randomTable(r *rand.Rand) api.Locks {
	var l api.Locks
	add := func(list []api.Grant) []api.Grant {
		return append(list, api.Grant{Tx: 1 + r.Intn(6), Lock: lock("abcd"[r.Intn(4)]), Mode: 1 + r.Intn(4)/3})
	}
	for range r.Intn(6) {
		l.Held = add(l.Held)
	}
	for range r.Intn(5) {
		l.Waiting = add(l.Waiting)
	}
	if r.Intn(8) > 0 {
		slices.SortFunc(l.Held, compare)
	}
	return l
}

// TestRandomTables checks P8.1 to P8.3 with tables that nobody has made by requests.
func TestRandomTables(t *testing.T) {
	r := rand.New(rand.NewSource(8))
	valid := 0
	for range 20000 {
		l := randomTable(r)
		if Valid(l) {
			valid++
		}
		checkPlain(t, l, 1+r.Intn(6), lock("abcd"[r.Intn(4)]))
	}
	if valid < 5000 || valid > 15000 {
		t.Errorf("%d of 20000 tables are valid", valid)
	}
}

// checkConsequences checks what the chapter says of tables that its functions have made.
func checkConsequences(t *testing.T, l api.Locks) {
	t.Helper()
	if !Valid(l) {
		t.Fatalf("not valid: %v", l)
	}
	for at, w := range l.Waiting {
		if !plainBlocked(l, at) {
			t.Errorf("could be held: %v of %v", w, l)
		}
		if got, ok := Waiting(l, w.Tx); got != w || !ok {
			t.Errorf("%d waits for %v: %v, %t", w.Tx, w, got, ok)
		}
	}
	checkTable(t, "settled again", Cancel(l, api.MaxTx), l)
	checkTable(t, "settled again", Drop(l, api.MaxTx, lock('a')), l)
	checkTable(t, "settled again", Release(l, api.MaxTx), l)
}

// TestRandomScripts checks P8.1 to P8.3 and the consequences with tables that grow from an empty one.
func TestRandomScripts(t *testing.T) {
	r := rand.New(rand.NewSource(88))
	held, waited := 0, 0
	for range 300 {
		var l api.Locks
		for range 60 {
			tx, k := 1+r.Intn(6), lock("abcd"[r.Intn(4)])
			checkPlain(t, l, tx, k)
			switch r.Intn(9) {
			case 0:
				l = Cancel(l, tx)
			case 1:
				l = Drop(l, tx, k)
			case 2:
				l = Release(l, tx)
			default:
				next, holds, e := Request(l, api.Grant{Tx: tx, Lock: k, Mode: 1 + r.Intn(2)})
				if e != api.OK { // it waits for another one
					continue
				}
				if holds {
					held++
				} else {
					waited++
				}
				l = next
			}
			checkConsequences(t, l)
		}
	}
	if held < 2000 || waited < 2000 {
		t.Errorf("%d requests were held, %d waited", held, waited)
	}
}

// TestTotal checks R1 and R4: with any numbers nothing panics, and a table stays valid.
func TestTotal(t *testing.T) {
	r := rand.New(rand.NewSource(888))
	numbers := append([]int{0, 1, 2, 3, 15, 16, 63, 64, api.MaxTx}, extremes...)
	number := func() int {
		if r.Intn(3) > 0 {
			return 1 + r.Intn(2)
		}
		return numbers[r.Intn(len(numbers))]
	}
	anything := func() api.Grant {
		return api.Grant{Tx: number(), Lock: api.Lock{Page: number(), Slot: number()}, Mode: number()}
	}
	for range 20000 {
		var l api.Locks
		for range r.Intn(3) {
			l.Held = append(l.Held, anything())
		}
		for range r.Intn(3) {
			l.Waiting = append(l.Waiting, anything())
		}
		g := anything()
		next, holds, e := Request(l, g)
		if e == api.OK && (!Valid(next) || holds != (Mode(next, g.Tx, g.Lock) >= g.Mode)) || e != api.OK && (holds || !same(next, api.Locks{})) {
			t.Errorf("Request(%v, %v): %v, %t, %d", l, g, next, holds, e)
		}
		for _, next := range []api.Locks{Cancel(l, g.Tx), Drop(l, g.Tx, g.Lock), Release(l, g.Tx)} {
			if Valid(next) != Valid(l) || !Valid(l) && !same(next, l) {
				t.Errorf("%v, %v: %v", l, g, next)
			}
		}
	}
}
