package locks

import (
	"fmt"
	"math"
	"slices"
	"strings"
	"testing"

	"pagemend/api"
)

// extremes are numbers that no transaction, page, slot or mode has.
var extremes = []int{math.MinInt64, math.MinInt64 + 1, -api.MaxTx, -1, api.MaxTx + 1, math.MaxInt64 - 1, math.MaxInt64}

// lock returns a lock by its letter; the letters are in the order of the locks.
func lock(letter byte) api.Lock {
	return []api.Lock{{Page: 0, Slot: 0}, {Page: 0, Slot: 15}, {Page: 1, Slot: 0}, {Page: 63, Slot: 15}}[letter-'a']
}

// grant returns the grant that is written like "1as": the transaction 1, the lock a, shared (x: exclusive).
func grant(s string) api.Grant {
	return api.Grant{Tx: int(s[0] - '0'), Lock: lock(s[1]), Mode: 1 + strings.IndexByte("sx", s[2])}
}

// grants returns a list of grants with blanks in between.
func grants(s string) []api.Grant {
	var list []api.Grant
	for _, g := range strings.Fields(s) {
		list = append(list, grant(g))
	}
	return list
}

// table returns the table that is written as what is held, a bar, and what waits.
func table(s string) api.Locks {
	held, waiting, _ := strings.Cut(s, "|")
	return api.Locks{Held: grants(held), Waiting: grants(waiting)}
}

// same reports whether two tables are equal; lists without elements are.
func same(a, b api.Locks) bool {
	return slices.Equal(a.Held, b.Held) && slices.Equal(a.Waiting, b.Waiting)
}

// checkTable checks a table.
func checkTable(t *testing.T, name string, got, want api.Locks) {
	t.Helper()
	if !same(got, want) {
		t.Errorf("%s: %v, want %v", name, got, want)
	}
}

// checkRequest checks a request that is no error: "+" before the table says that it is held.
func checkRequest(t *testing.T, from, g, want string) {
	t.Helper()
	want, held := strings.CutPrefix(want, "+")
	got, holds, e := Request(table(from), grant(g))
	checkTable(t, from+" request "+g, got, table(want))
	if holds != held || e != api.OK {
		t.Errorf("%s request %s: %t, %d, want %t", from, g, holds, e, held)
	}
}

// many returns as many shared grants of different transactions on one lock, ascending.
func many(count int) []api.Grant {
	var list []api.Grant
	for i := range count {
		list = append(list, api.Grant{Tx: 1 + i, Lock: lock('b'), Mode: api.Shared})
	}
	return list
}

// goodTables are valid tables; in some of them not all grants are held that can be.
func goodTables() []api.Locks {
	good := []api.Locks{
		{Held: []api.Grant{{Tx: 1, Lock: api.Lock{Page: 0, Slot: 0}, Mode: 1}, {Tx: api.MaxTx, Lock: api.Lock{Page: 63, Slot: 15}, Mode: 2}}},
		{Waiting: []api.Grant{{Tx: api.MaxTx, Lock: api.Lock{Page: 63, Slot: 15}, Mode: 2}, {Tx: 1, Lock: api.Lock{Page: 0, Slot: 0}, Mode: 1}}},
		{Held: many(api.MaxLocks)},
		{Waiting: many(api.MaxLocks)},
		{Held: many(api.MaxLocks - 2), Waiting: grants("1ax 2bx")},
	}
	for _, s := range []string{
		"|", "1as|", "1ax|", "1as 2as 9as|", "1as 1bs 2bs 1cx 1ds|", "2ax 1bx|", "2ax 1bs 3bs 3cx|",
		"|1ax", "|3ax 2ax 1as", "1as|1ax", "1as 2as|2ax 1ax", "1ax|2as 3ax 4as", "1ax|1bx", "1ax|1bs", "1as|2as", "2ax|1bs 3as",
	} {
		good = append(good, table(s))
	}
	return good
}

// badTables are tables that are not valid.
func badTables() []api.Locks {
	bad := []api.Locks{
		{Held: many(api.MaxLocks + 1)},
		{Waiting: many(api.MaxLocks + 1)},
		{Held: many(api.MaxLocks), Waiting: grants("1ax")},
		{Held: many(api.MaxLocks - 1), Waiting: grants("1ax 2ax")},
	}
	for _, s := range []string{
		"2as 1as|", "1bs 1as|", "1cs 1bs|", "2bs 1cs 1bs|", // not ascending
		"1as 1as|", "1as 1ax|", "1ax 1as|", "1ax 1ax|", "1as 2as 2as|", // not strictly
		"1ax 2ax|", "1as 2ax|", "1ax 2as|", "1as 2as 3ax|", "1ax 2as 3as|", "1as 2ax 3as|", "1cs 1ds 2dx|", // conflicts
		"|1as 1as", "|1as 1ax", "|1as 1bs", "|1as 2as 1cx", "2ax|1bs 3as 1ax", // waits twice
		"1as|1as", "1ax|1as", "1ax|1ax", "1as 2as 3as|3ax 4as 2as", "1as 2bx|1ax 2bs", // holds what it waits for
	} {
		bad = append(bad, table(s))
	}
	for _, g := range badGrants() {
		bad = append(bad, api.Locks{Held: []api.Grant{g}}, api.Locks{Waiting: []api.Grant{g}})
		bad = append(bad, api.Locks{Held: grants("1as 2as 1cx"), Waiting: []api.Grant{grant("3cx"), g, grant("2cs")}})
	}
	return bad
}

// badGrants are grants that are not valid: each has one number out of its range.
func badGrants() []api.Grant {
	var bad []api.Grant
	add := func(change func(*api.Grant)) {
		g := grant("5cx")
		change(&g)
		bad = append(bad, g)
	}
	for _, n := range extremes {
		add(func(g *api.Grant) { g.Tx = n })
		add(func(g *api.Grant) { g.Lock.Page = n })
		add(func(g *api.Grant) { g.Lock.Slot = n })
		add(func(g *api.Grant) { g.Mode = n })
	}
	add(func(g *api.Grant) { g.Tx = 0 })
	add(func(g *api.Grant) { g.Lock.Page = api.MaxPages })
	add(func(g *api.Grant) { g.Lock.Slot = api.Slots })
	add(func(g *api.Grant) { g.Mode = 0 })
	add(func(g *api.Grant) { g.Mode = 3 })
	return bad
}

// TestValid checks P8.1: each rule of a valid table, at its bounds and beyond.
func TestValid(t *testing.T) {
	for i, l := range goodTables() {
		if !Valid(l) {
			t.Errorf("good %d: not valid", i)
		}
	}
	for i, l := range badTables() {
		if Valid(l) {
			t.Errorf("bad %d: valid", i)
		}
	}
}

// TestModeAndWaiting checks P8.1: what is held, and what is waited for.
func TestModeAndWaiting(t *testing.T) {
	l := table("1as 2as 4bx 1cx 3ds|2bs 1ax 5cs 6ax")
	for g, want := range map[string]int{
		"1a": 1, "2a": 1, "4b": 2, "1c": 2, "3d": 1,
		"3a": 0, "0a": 0, "1b": 0, "2b": 0, "5c": 0, "6a": 0, "2d": 0, "4d": 0,
	} {
		if got := Mode(l, int(g[0]-'0'), lock(g[1])); got != want {
			t.Errorf("mode %s: %d, want %d", g, got, want)
		}
	}
	for tx := range 9 {
		want := map[int]string{1: "1ax", 2: "2bs", 5: "5cs", 6: "6ax"}[tx]
		got, ok := Waiting(l, tx)
		if ok != (want != "") || ok && got != grant(want) || !ok && got != (api.Grant{}) {
			t.Errorf("waiting %d: %v, %t, want %q", tx, got, ok, want)
		}
	}
	for _, n := range extremes {
		_, waits := Waiting(l, n)
		if waits || Mode(l, n, lock('a')) != 0 || Mode(l, 1, api.Lock{Page: n}) != 0 || Mode(l, 1, api.Lock{Slot: n}) != 0 {
			t.Errorf("%d: something is found", n)
		}
	}
}

// TestRequest checks P8.2: a new request is held, or waits at the end.
func TestRequest(t *testing.T) {
	checkRequest(t, "|", "1as", "+1as|")
	checkRequest(t, "|", "1ax", "+1ax|")
	checkRequest(t, "1as|", "2as", "+1as 2as|")
	checkRequest(t, "2as|", "1as", "+1as 2as|")
	checkRequest(t, "1as 3as|", "2as", "+1as 2as 3as|")
	checkRequest(t, "1bx|", "2ax", "+2ax 1bx|")
	checkRequest(t, "1ax 3cs|", "1bs", "+1ax 1bs 3cs|")
	checkRequest(t, "1as|", "2ax", "1as|2ax")
	checkRequest(t, "1ax|", "2as", "1ax|2as")
	checkRequest(t, "1ax|", "2ax", "1ax|2ax")
	checkRequest(t, "1as|2ax", "3as", "1as|2ax 3as") // it does not pass
	checkRequest(t, "1as|2ax 3as", "4as", "1as|2ax 3as 4as")
	checkRequest(t, "1as|2ax", "3bs", "+1as 3bs|2ax")
	checkRequest(t, "1as|2ax", "1bx", "+1as 1bx|2ax")
	checkRequest(t, "1ax 2bx|3ax", "4bs", "1ax 2bx|3ax 4bs")
	checkRequest(t, "1ax 2bx|3bs", "1bs", "1ax 2bx|3bs 1bs") // who holds another lock does not upgrade
	checkRequest(t, "1ax 2bx|3ax 4bs", "5as", "1ax 2bx|3ax 4bs 5as")
}

// TestRequestUnchanged checks P8.2: what is held, or waited for, is not asked for again, and nothing is settled then.
func TestRequestUnchanged(t *testing.T) {
	checkRequest(t, "1as|", "1as", "+1as|")
	checkRequest(t, "1ax|", "1as", "+1ax|")
	checkRequest(t, "1ax|", "1ax", "+1ax|")
	checkRequest(t, "1as 2as|3ax", "2as", "+1as 2as|3ax")
	checkRequest(t, "1as|2as", "1as", "+1as|2as")
	checkRequest(t, "1ax|2bx 3as", "1as", "+1ax|2bx 3as")
	checkRequest(t, "1as|2ax", "2ax", "1as|2ax")
	checkRequest(t, "1as 2as|2ax 3ax", "2ax", "1as 2as|2ax 3ax")
	checkRequest(t, "1ax|2ax 3as", "3as", "1ax|2ax 3as")
	checkRequest(t, "|1ax", "1ax", "|1ax")
	checkRequest(t, "1as|1ax", "1ax", "1as|1ax")
}

// TestUpgrade checks P8.2: an upgrade is held in the place of the weaker grant, or goes before those who hold nothing.
func TestUpgrade(t *testing.T) {
	checkRequest(t, "1as|", "1ax", "+1ax|")
	checkRequest(t, "1as 1bs 2bs|", "1ax", "+1ax 1bs 2bs|")
	checkRequest(t, "1as|2ax", "1ax", "+1ax|2ax")
	checkRequest(t, "1as|2ax 3as", "1ax", "+1ax|2ax 3as")
	checkRequest(t, "1as 2as|", "1ax", "1as 2as|1ax")
	checkRequest(t, "1as 2as|1ax", "2ax", "1as 2as|1ax 2ax")
	checkRequest(t, "1as 2as|3ax", "1ax", "1as 2as|1ax 3ax")
	checkRequest(t, "1as 2as|3ax", "2ax", "1as 2as|2ax 3ax")
	checkRequest(t, "1as 2as|1ax 3ax", "2ax", "1as 2as|1ax 2ax 3ax")
	checkRequest(t, "1as 2as 5as|1ax 3ax 2ax 4as", "5ax", "1as 2as 5as|1ax 5ax 3ax 2ax 4as")
	checkRequest(t, "1as 2as 6bx|4bs 3bx", "1ax", "1as 2as 6bx|4bs 3bx 1ax") // others wait for another lock
	checkRequest(t, "1as 2as 6bx|4bs 3ax 5bx", "1ax", "1as 2as 6bx|4bs 1ax 3ax 5bx")
	checkRequest(t, "1as 2as 3bs 6bs|3ax 4ax", "1ax", "1as 2as 3bs 6bs|1ax 3ax 4ax") // 3 holds only another lock
	checkRequest(t, "1as 2as 2bs 6bs|2bx 4ax", "1ax", "1as 2as 2bs 6bs|2bx 1ax 4ax") // 2 upgrades another one
}

// TestRequestSettles checks P8.2: a request settles what others have left.
func TestRequestSettles(t *testing.T) {
	checkRequest(t, "|1ax", "2as", "1ax|2as")
	checkRequest(t, "|1as", "2as", "+1as 2as|")
	checkRequest(t, "|1as 3bx", "2ax", "1as 3bx|2ax")
	checkRequest(t, "1as|1ax", "2bs", "+1ax 2bs|")
	checkRequest(t, "|1ax 2ax 3bs", "4cs", "+1ax 3bs 4cs|2ax")
	checkRequest(t, "1as|2as", "1ax", "+1ax|2as") // the upgrade is before it
}

// TestRequestErrors checks P8.2: each error, and which is the first one.
func TestRequestErrors(t *testing.T) {
	full := api.Locks{Held: many(api.MaxLocks - 1), Waiting: grants("1bx")}
	held := api.Locks{Held: many(api.MaxLocks)}
	check := func(name string, l api.Locks, g api.Grant, want api.Errno) {
		t.Helper()
		got, holds, e := Request(l, g)
		if !same(got, api.Locks{}) || holds || e != want {
			t.Errorf("%s: %v, %t, %d, want %d", name, got, holds, e, want)
		}
	}
	for i, l := range badTables() {
		check(fmt.Sprint("bad table ", i), l, grant("5cx"), api.ErrLock)
		check(fmt.Sprint("bad table and grant ", i), l, api.Grant{}, api.ErrLock)
	}
	for _, g := range badGrants() {
		check(fmt.Sprint("bad grant ", g), table("1as|5ax"), g, api.ErrRange)
		check(fmt.Sprint("bad grant, full ", g), full, g, api.ErrRange)
	}
	for _, g := range []string{"3as", "3ax", "3bx", "3cs", "3dx"} { // 3 waits for 3bs
		check("waits for another one "+g, table("2bx 3cs 3dx|3bs"), grant(g), api.ErrState)
	}
	for _, g := range []string{"1as", "1bx", "1bs"} { // 1 waits for 1ax
		check("waits for an upgrade "+g, table("1as 2as 1bx|1ax"), grant(g), api.ErrState)
	}
	check("waits for another one, full", full, grant("1ax"), api.ErrState)
	check("full", full, grant("3ax"), api.ErrLimit)
	check("full, upgrade", full, grant("2bx"), api.ErrLimit)
	check("all held", held, grant("1as"), api.ErrLimit)
	check("all held, upgrade", held, grant("1bx"), api.ErrLimit)
	check("all wait", api.Locks{Waiting: many(api.MaxLocks)}, api.Grant{Tx: api.MaxTx, Lock: lock('a'), Mode: 1}, api.ErrLimit)
	held.Held = slices.Clone(held.Held)
	held.Held[0] = grant("1as") // nobody else holds it
	check("all held, upgrade of one who is alone", held, grant("1ax"), api.ErrLimit)
}

// TestLimit checks P8.2: a table may become full, and what changes nothing is possible then.
func TestLimit(t *testing.T) {
	l := api.Locks{Held: many(api.MaxLocks - 1)}
	got, holds, e := Request(l, grant("5dx"))
	checkTable(t, "the last one, held", got, api.Locks{Held: append(many(api.MaxLocks-1), grant("5dx"))})
	if !holds || e != api.OK {
		t.Errorf("the last one, held: %t, %d", holds, e)
	}
	got, holds, e = Request(l, grant("5bx"))
	checkTable(t, "the last one, waiting", got, api.Locks{Held: many(api.MaxLocks - 1), Waiting: grants("5bx")})
	if holds || e != api.OK {
		t.Errorf("the last one, waiting: %t, %d", holds, e)
	}
	for _, s := range []string{"5bx", "6bs"} {
		again, holds, e := Request(got, grant(s))
		checkTable(t, "full", again, got)
		if holds != (s == "6bs") || e != api.OK {
			t.Errorf("full, %s: %t, %d", s, holds, e)
		}
	}
	// Grants in all modes of all cells.
	l = api.Locks{}
	for i := range api.MaxPages * api.Slots {
		l, holds, e = Request(l, api.Grant{Tx: 1 + i%3, Lock: api.Lock{Page: i * 5 % api.MaxPages, Slot: i / api.MaxPages}, Mode: 1 + i%2})
		if !holds || e != api.OK || !Valid(l) || len(l.Held) != i+1 {
			t.Fatalf("cell %d: %t, %d, %d grants", i, holds, e, len(l.Held))
		}
	}
}

// TestCancel checks P8.3: what a transaction waits for is removed, and what waits behind it may be held.
func TestCancel(t *testing.T) {
	for _, c := range []struct {
		from string
		tx   int
		want string
	}{
		{"1as|2ax 3as", 2, "1as 3as|"},
		{"1as|2ax 3as 4ax 5as", 2, "1as 3as|4ax 5as"},
		{"1as|2ax 3as", 3, "1as|2ax"},
		{"1as|2ax 3as", 1, "1as|2ax 3as"}, // it holds, but does not wait
		{"1as|2ax 3as", 9, "1as|2ax 3as"},
		{"1as 2as|1ax 3as", 1, "1as 2as 3as|"}, // what it holds stays
		{"1as 2as|1ax 2ax", 1, "1as 2as|2ax"},
		{"|1ax 2ax", 3, "1ax|2ax"}, // settled all the same
		{"|1ax 2ax", 1, "2ax|"},
		{"|", 1, "|"},
	} {
		checkTable(t, fmt.Sprint(c.from, " cancel ", c.tx), Cancel(table(c.from), c.tx), table(c.want))
	}
}

// TestDrop checks P8.3: one lock is removed, and others may be held.
func TestDrop(t *testing.T) {
	for _, c := range []struct{ from, grant, want string }{
		{"1ax|2as 3as 4ax", "1a", "2as 3as|4ax"},
		{"1ax|2ax 3as", "1a", "2ax|3as"},
		{"1as 2as|1ax 3as", "2a", "1ax|3as"},
		{"1as 2as|1ax 3as", "1a", "2as|1ax 3as"}, // what it waits for stays
		{"1as 2as|1ax 2ax", "1a", "2as|1ax 2ax"}, // 1 waits before 2
		{"1as 2as|2ax 1ax", "1a", "2ax|1ax"},
		{"1as|1ax 2as", "1a", "1ax|2as"},
		{"1ax 1bx|2bs 3as", "1b", "1ax 2bs|3as"},
		{"1as 1bs 1cx|", "1b", "1as 1cx|"},
		{"1as 1bs 1cx|", "1d", "1as 1bs 1cx|"},
		{"1as|2ax 3as", "2a", "1as|2ax 3as"}, // it waits, but does not hold
		{"1as|2ax 3as", "9a", "1as|2ax 3as"},
		{"|1ax 2ax", "3a", "1ax|2ax"}, // settled all the same
		{"1as|1ax 2ax", "3a", "1ax|2ax"},
		{"|", "1a", "|"},
	} {
		checkTable(t, c.from+" drop "+c.grant, Drop(table(c.from), int(c.grant[0]-'0'), lock(c.grant[1])), table(c.want))
	}
}

// TestRelease checks P8.3: everything of a transaction is removed, and others may be held.
func TestRelease(t *testing.T) {
	for _, c := range []struct {
		from string
		tx   int
		want string
	}{
		{"1ax 1bx 1cs|2bs 3as 4ax", 1, "3as 2bs|4ax"},
		{"1as 2as|1ax 2ax 3as", 1, "2ax|3as"},
		{"1as 2as|1ax 2ax 3as", 2, "1ax|3as"},
		{"1as 2bx|2ax 3as 1bs 4bx", 2, "1as 3as 1bs|4bx"},
		{"1as|2ax 3as", 2, "1as 3as|"},
		{"1as|2ax 3as", 9, "1as|2ax 3as"},
		{"1as 2as|3ax", 1, "2as|3ax"},
		{"1ax 1dx|", 1, "|"},
		{"|1ax 2as 3as", 9, "1ax|2as 3as"}, // settled all the same
		{"|1ax 2as 3as", 1, "2as 3as|"},
		{"|", 1, "|"},
	} {
		checkTable(t, fmt.Sprint(c.from, " release ", c.tx), Release(table(c.from), c.tx), table(c.want))
	}
}

// TestNoTable checks P8.1 and P8.3: in a table that is not valid nothing is found, and nothing is changed.
func TestNoTable(t *testing.T) {
	for i, l := range badTables() {
		for _, g := range slices.Concat(l.Held, l.Waiting, grants("1as 2cx"), make([]api.Grant, 1)) {
			if m := Mode(l, g.Tx, g.Lock); m != 0 {
				t.Errorf("bad %d: mode %d", i, m)
			}
			if w, ok := Waiting(l, g.Tx); ok || w != (api.Grant{}) {
				t.Errorf("bad %d: waiting %v, %t", i, w, ok)
			}
			if len(l.Held)+len(l.Waiting) > 9 && g.Tx > 3 { // of the long ones a few are enough
				continue
			}
			checkTable(t, "cancel", Cancel(l, g.Tx), l)
			checkTable(t, "drop", Drop(l, g.Tx, g.Lock), l)
			checkTable(t, "release", Release(l, g.Tx), l)
		}
	}
}

// TestExamples checks the example of the chapter.
func TestExamples(t *testing.T) {
	l, _, _ := Request(api.Locks{}, grant("1as"))
	l, _, _ = Request(l, grant("2as"))
	l, holds, e := Request(l, grant("1ax"))
	if w, ok := Waiting(l, 1); holds || e != api.OK || w != grant("1ax") || !ok || Mode(l, 1, lock('a')) != api.Shared {
		t.Errorf("1 does not wait: %v, %t, %d", l, holds, e)
	}
	l = Release(l, 2)
	if Mode(l, 1, lock('a')) != api.Exclusive {
		t.Errorf("1 does not hold it: %v", l)
	}
}

// TestKept checks R2: no function changes its table, nor what lies behind its lists; and results are memory of their own.
func TestKept(t *testing.T) {
	spare := func(s string) []api.Grant { return append(grants(s), grants("7dx 8dx 9dx")...) }
	for _, s := range []string{"1as 2as|1ax 3as", "1ax|2as 3as", "|1ax 2bs", "1ax|2bx", "2as 1as|3ax 3ax", "|"} {
		heldText, waitingText, _ := strings.Cut(s, "|")
		held, waiting := spare(heldText), spare(waitingText)
		l := api.Locks{Held: held[:len(held)-3], Waiting: waiting[:len(waiting)-3]}
		results := []api.Locks{Cancel(l, 1), Cancel(l, 2), Drop(l, 1, lock('a')), Drop(l, 9, lock('a')), Release(l, 1), Release(l, 2)}
		for _, g := range []string{"1ax", "1as", "2ax", "2as", "4as", "4bx", "5cs"} {
			r, _, _ := Request(l, grant(g))
			results = append(results, r)
		}
		for _, r := range results {
			for _, list := range [][]api.Grant{r.Held, r.Waiting} {
				clear(list[:cap(list)])
			}
		}
		if !slices.Equal(held, spare(heldText)) || !slices.Equal(waiting, spare(waitingText)) {
			t.Errorf("%s: changed: %v, %v", s, held, waiting)
		}
	}
}
