package journal

import (
	"fmt"
	"math"
	"slices"
	"strings"
	"testing"

	"pagemend/api"
)

// longest is the longest blob.
var longest = strings.Repeat("b", api.MaxBlob)

// extremes are numbers that no log has.
var extremes = []int{math.MinInt64, math.MinInt64 + 1, -api.MaxLSN, -1, api.MaxLSN + 2, math.MaxInt64 - 1, math.MaxInt64}

// set returns a cell with data.
func set(data string) api.Cell { return api.Cell{Set: true, Data: data} }

// note returns a note with this number.
func note(lsn int) api.Entry { return api.Entry{LSN: lsn, Kind: api.EntryNote} }

// notes returns a log of notes, with this many of them and this many durable ones.
func notes(first, count, durable int) api.Log {
	l := api.Log{First: first, Durable: first - 1 + durable}
	for i := range count {
		l.Entries = append(l.Entries, note(first+i))
	}
	return l
}

// sample returns a log with an entry of each kind, whose numbers begin with 11, and with three durable ones.
func sample() api.Log {
	c := api.Change{Page: 3, Slot: 2, After: set("hello")}
	back := api.Change{Page: 3, Slot: 2, Before: set("hello")}
	return api.Log{First: 11, Durable: 13, Entries: []api.Entry{
		{LSN: 11, Kind: api.EntryChange, Tx: 2, PrevTx: 8, PrevPage: 7, Change: c},
		{LSN: 12, Kind: api.EntryCheckpoint, Blob: "all is well"},
		{LSN: 13, Kind: api.EntryAbort, Tx: 2, PrevTx: 11},
		{LSN: 14, Kind: api.EntryUndo, Tx: 2, PrevTx: 13, PrevPage: 11, Ref: 11, Change: back},
		{LSN: 15, Kind: api.EntryEnd, Tx: 2, PrevTx: 14},
		{LSN: 16, Kind: api.EntryIndex, Ref: 14, Change: api.Change{Page: 3}},
		{LSN: 17, Kind: api.EntryNote, Blob: "\x00\xff"},
		{LSN: 18, Kind: api.EntryCommit, Tx: 3, PrevTx: 9},
	}}
}

// logs are valid logs of all lengths.
func logs() []api.Log {
	all := []api.Log{
		New(), sample(), with(func(l *api.Log) { l.Entries[1].Blob, l.Entries[6].Blob = longest, longest }),
		notes(1, 1, 0), notes(1, 1, 1), notes(1, 5, 2), notes(7, 0, 0), notes(7, 3, 3),
		notes(1, api.MaxEntries, 0), notes(5, api.MaxEntries, api.MaxEntries), notes(1, api.MaxEntries-1, 9),
		notes(api.MaxLSN, 0, 0), notes(api.MaxLSN, 1, 0), notes(api.MaxLSN, 1, 1),
		notes(api.MaxLSN-2, 3, 2), notes(api.MaxLSN-api.MaxEntries+1, api.MaxEntries, 4000),
	}
	for durable := range 9 {
		l := sample()
		l.Durable = 10 + durable
		all = append(all, l)
	}
	return all
}

// with returns a sample after a change of it.
func with(change func(*api.Log)) api.Log {
	l := sample()
	change(&l)
	return l
}

// badLogs are logs that are not valid, for one reason each.
func badLogs() []api.Log {
	bad := []api.Log{
		{},
		{First: 0, Durable: -1},
		{First: -5, Durable: -6},
		{First: api.MaxLSN + 1, Durable: api.MaxLSN},
		{First: math.MinInt64, Durable: math.MaxInt64}, // First - 1 wraps around
		{First: math.MaxInt64, Durable: math.MaxInt64 - 1},
		{First: 0, Durable: -1, Entries: []api.Entry{note(0), note(1)}},
		notes(1, api.MaxEntries+1, 0),
		notes(1, api.MaxEntries+1, api.MaxEntries+1),
		notes(api.MaxLSN, 2, 0),
		notes(api.MaxLSN-1, 3, 3),
		{First: 7, Durable: 5},
		{First: 7, Durable: 7},
		with(func(l *api.Log) { l.First = 10 }),
		with(func(l *api.Log) { l.First, l.Durable = 12, 15 }),
		with(func(l *api.Log) { l.Entries = slices.Delete(l.Entries, 0, 1) }),
		with(func(l *api.Log) { l.Entries = slices.Delete(l.Entries, 4, 5) }),
		with(func(l *api.Log) { slices.Reverse(l.Entries) }),
	}
	for _, durable := range append(extremes, 0, 9, 19, 20) {
		bad = append(bad, with(func(l *api.Log) { l.Durable = durable }))
	}
	for i := range sample().Entries {
		bad = append(bad,
			with(func(l *api.Log) { l.Entries[i].Kind = 9 }),
			with(func(l *api.Log) { l.Entries[i].PrevTx = -1 }),
			with(func(l *api.Log) { l.Entries[i].LSN++ }),
			with(func(l *api.Log) { l.Entries[i].LSN-- }),
			with(func(l *api.Log) { l.Entries[i].Blob = longest + "b" }),
			with(func(l *api.Log) { l.Entries = slices.Insert(l.Entries, i, l.Entries[i]) }),
		)
	}
	return bad
}

// same reports whether two logs are equal; a log has no entries with a nil slice or an empty one.
func same(a, b api.Log) bool {
	return a.First == b.First && a.Durable == b.Durable && slices.Equal(a.Entries, b.Entries)
}

// checkLog checks a log and an error.
func checkLog(t *testing.T, name string, l api.Log, e api.Errno, want api.Log, wantError api.Errno) {
	t.Helper()
	if !same(l, want) || e != wantError {
		t.Errorf("%s: %s, %d, want %s, %d", name, show(l), e, show(want), wantError)
	}
	if e == api.OK && !Valid(l) {
		t.Errorf("%s: not valid: %s", name, show(l))
	}
}

// show returns what a test says of a log.
func show(l api.Log) string {
	return fmt.Sprintf("log from %d with %d entries, durable up to %d", l.First, len(l.Entries), l.Durable)
}

// TestNew checks P6.1: a log without entries, which begins with 1.
func TestNew(t *testing.T) {
	l := New()
	if l.First != 1 || len(l.Entries) != 0 || l.Durable != 0 {
		t.Errorf("New: %+v", l)
	}
}

// TestValid checks P6.1: logs with each field at its bounds are valid.
func TestValid(t *testing.T) {
	for _, l := range logs() {
		if !Valid(l) {
			t.Errorf("not valid: %s", show(l))
		}
	}
}

// TestValidNot checks P6.1: each rule of a valid log; the functions that return no error say nothing of others.
func TestValidNot(t *testing.T) {
	for _, l := range badLogs() {
		if Valid(l) {
			t.Errorf("valid: %s", show(l))
		}
		if n := Last(l); n != 0 {
			t.Errorf("%s: Last %d", show(l), n)
		}
	}
}

// TestLast checks P6.1: the number of the last entry, and First - 1 without one.
func TestLast(t *testing.T) {
	for _, l := range logs() {
		want := l.First - 1
		for _, e := range l.Entries {
			want = e.LSN
		}
		if n := Last(l); n != want {
			t.Errorf("%s: Last %d, want %d", show(l), n, want)
		}
	}
}

// TestAppend checks P6.2: the entry is behind all others, with the next number, whatever it had; nothing else changes.
func TestAppend(t *testing.T) {
	for _, l := range logs() {
		if len(l.Entries) == api.MaxEntries || Last(l) == api.MaxLSN {
			continue
		}
		for _, lsn := range append(extremes, 0, 1, Last(l), Last(l)+1) {
			got, n, e := Append(l, note(lsn))
			want := api.Log{First: l.First, Durable: l.Durable, Entries: append(slices.Clone(l.Entries), note(Last(l)+1))}
			checkLog(t, "Append", got, e, want, api.OK)
			if n != Last(l)+1 {
				t.Errorf("%s: the number %d", show(l), n)
			}
		}
	}
}

// TestAppendAll checks P6.2: entries of all kinds, one after the other, up to the limit.
func TestAppendAll(t *testing.T) {
	l, want := notes(11, 0, 0), sample()
	want.Durable = 10
	for i, e := range want.Entries {
		var n int
		var err api.Errno
		e.LSN = 0
		if l, n, err = Append(l, e); n != 11+i || err != api.OK {
			t.Fatalf("the entry %d has the number %d, %d", 11+i, n, err)
		}
	}
	checkLog(t, "all kinds", l, api.OK, want, api.OK)
	full, n, e := Append(notes(3, api.MaxEntries-1, 2), note(0))
	checkLog(t, "the last one that may be", full, e, notes(3, api.MaxEntries, 2), api.OK)
	if n != api.MaxEntries+2 {
		t.Errorf("the last one that may be has the number %d", n)
	}
}

// TestAppendErrors checks P6.2: the errors in their order.
func TestAppendErrors(t *testing.T) {
	check := func(name string, l api.Log, e api.Entry, want api.Errno) {
		t.Helper()
		got, n, err := Append(l, e)
		checkLog(t, name, got, err, api.Log{}, want)
		if n != 0 {
			t.Errorf("%s: the number %d", name, n)
		}
	}
	for _, l := range badLogs() {
		check("no log", l, note(1), api.ErrLog)
		check("no log, no entry", l, api.Entry{}, api.ErrLog)
	}
	for _, l := range []api.Log{
		notes(1, api.MaxEntries, 0), notes(1, api.MaxEntries, api.MaxEntries),
		notes(api.MaxLSN, 1, 0), notes(api.MaxLSN-3, 4, 4), notes(api.MaxLSN-api.MaxEntries+1, api.MaxEntries, 0),
	} {
		check("full", l, note(1), api.ErrLimit)
		check("full, no entry", l, api.Entry{}, api.ErrLimit)
	}
	for _, e := range []api.Entry{
		{}, {LSN: 6}, {LSN: 6, Kind: 9}, {LSN: 6, Kind: api.EntryNote, Tx: 1}, {LSN: 6, Kind: api.EntryNote, Blob: longest + "b"},
		{LSN: 6, Kind: api.EntryCommit, Tx: 1}, {Kind: api.EntryCommit, Tx: 1, PrevTx: -1},
	} {
		check("no entry", notes(1, 5, 2), e, api.ErrEntry)
	}
}

// TestAppendNumber checks P6.2: an entry is valid or not with the number that it gets, not with the one that it has.
func TestAppendNumber(t *testing.T) {
	commit := api.Entry{Kind: api.EntryCommit, Tx: 1, PrevTx: 5}
	for lsn, want := range map[int]api.Errno{4: api.ErrEntry, 5: api.ErrEntry, 6: api.OK, 7: api.OK} {
		for _, has := range []int{0, 1, 5, 6, 100} {
			commit.LSN = has
			_, n, e := Append(notes(lsn, 0, 0), commit)
			if e != want || want == api.OK && n != lsn {
				t.Errorf("with the number %d instead of %d: %d, %d", lsn, has, n, e)
			}
		}
	}
	if _, n, e := Append(notes(api.MaxLSN, 0, 0), note(0)); n != api.MaxLSN || e != api.OK {
		t.Errorf("the last number: %d, %d", n, e)
	}
}

// TestForce checks P6.3: Durable grows to each number, and never shrinks.
func TestForce(t *testing.T) {
	for _, l := range logs() {
		tries := []int{math.MinInt64, -api.MaxLSN, -1, 0, 1, l.First - 1, l.First, l.Durable - 1, l.Durable, l.Durable + 1, Last(l) - 1, Last(l)}
		for _, lsn := range tries {
			if lsn > Last(l) {
				continue
			}
			want := l
			if lsn > l.Durable {
				want.Durable = lsn
			}
			got, e := Force(l, lsn)
			checkLog(t, "Force", got, e, want, api.OK)
		}
	}
}

// TestForceErrors checks P6.3: the errors in their order.
func TestForceErrors(t *testing.T) {
	for _, l := range badLogs() {
		for _, lsn := range append(extremes, 0, 1, l.First, l.Durable) {
			got, e := Force(l, lsn)
			checkLog(t, "no log", got, e, api.Log{}, api.ErrLog)
		}
	}
	for _, l := range logs() {
		for _, lsn := range []int{Last(l) + 1, Last(l) + 2, api.MaxLSN + 1, math.MaxInt64} {
			got, e := Force(l, lsn)
			checkLog(t, "behind the last one", got, e, api.Log{}, api.ErrGone)
		}
	}
}

// TestGet checks P6.4: each entry, durable or not.
func TestGet(t *testing.T) {
	for _, l := range logs() {
		for i := 0; i < len(l.Entries); i += 1 + len(l.Entries)/50 {
			if got, e := Get(l, l.First+i); got != l.Entries[i] || e != api.OK {
				t.Errorf("%s: Get(%d): %.80v, %d", show(l), l.First+i, got, e)
			}
		}
	}
}

// TestGetErrors checks P6.4: the errors in their order.
func TestGetErrors(t *testing.T) {
	check := func(l api.Log, lsn int, want api.Errno) {
		t.Helper()
		if got, e := Get(l, lsn); got != (api.Entry{}) || e != want {
			t.Errorf("%s: Get(%d): %.80v, %d, want %d", show(l), lsn, got, e, want)
		}
	}
	for _, l := range badLogs() {
		for _, lsn := range append(extremes, 0, 1, l.First) {
			check(l, lsn, api.ErrLog)
		}
	}
	for _, l := range logs() {
		for _, lsn := range append(extremes, 0, l.First-1, Last(l)+1, Last(l)+2) {
			check(l, lsn, api.ErrGone)
		}
	}
}

// TestCut checks P6.7: at each number that it may be cut at, the entries from there on stay, with their numbers.
func TestCut(t *testing.T) {
	for _, l := range logs() {
		step := 1 + len(l.Entries)/50
		for first := l.First; first <= min(l.Durable+1, api.MaxLSN); first += step {
			got, e := Cut(l, first)
			want := api.Log{First: first, Durable: l.Durable, Entries: l.Entries[first-l.First:]}
			checkLog(t, "Cut", got, e, want, api.OK)
			if Last(got) != Last(l) {
				t.Errorf("%s: cut at %d, Last is %d", show(l), first, Last(got))
			}
			for lsn := max(first-2, l.First); lsn <= min(first+2, Last(l)); lsn++ {
				_, e := Get(got, lsn)
				if want := lsn >= first; (e == api.OK) != want || !want && e != api.ErrGone {
					t.Errorf("%s: cut at %d, Get(%d): %d", show(l), first, lsn, e)
				}
			}
		}
	}
}

// TestCutErrors checks P6.7: the errors in their order.
func TestCutErrors(t *testing.T) {
	check := func(name string, l api.Log, first int, want api.Errno) {
		t.Helper()
		got, e := Cut(l, first)
		checkLog(t, name, got, e, api.Log{}, want)
	}
	for _, l := range badLogs() {
		for _, first := range append(extremes, 0, 1, l.First) {
			check("no log", l, first, api.ErrLog)
		}
	}
	for _, l := range logs() {
		for _, first := range append(extremes, 0, l.First-1, Last(l)+2, api.MaxLSN+1) {
			check("out of range", l, first, api.ErrRange)
		}
		if l.Durable < Last(l) && l.Durable+2 <= api.MaxLSN {
			check("the first one that is not durable", l, l.Durable+2, api.ErrState)
		}
		if l.Durable < Last(l) && Last(l) < api.MaxLSN {
			check("all, but not all are durable", l, Last(l)+1, api.ErrState)
		}
	}
	check("no number is left, all durable", notes(api.MaxLSN, 1, 1), api.MaxLSN+1, api.ErrRange)
	check("no number is left, none durable", notes(api.MaxLSN, 1, 0), api.MaxLSN+1, api.ErrRange)
}

// TestCutAll checks a consequence: numbers are never given twice, also when all entries are cut off.
func TestCutAll(t *testing.T) {
	l := New()
	for want := 1; want <= 40; want++ {
		var n int
		var e api.Errno
		if l, n, e = Append(l, note(0)); n != want || e != api.OK {
			t.Fatalf("the number %d, %d, want %d", n, e, want)
		}
		if want%3 == 0 {
			l, _ = Force(l, n)
			l, e = Cut(l, n+1)
			checkLog(t, "all cut off", l, e, api.Log{First: n + 1, Durable: n}, api.OK)
		}
		if want%9 == 0 {
			l, e = Open(Crash(l, 0))
			checkLog(t, "opened without an entry", l, e, api.Log{First: n + 1, Durable: n}, api.OK)
		}
	}
}

// TestArgumentsStay checks R2: no function writes to its log, nor behind its entries, and what it returns can be added to twice.
func TestArgumentsStay(t *testing.T) {
	spare := append(sample().Entries, note(1000), note(1001))
	l := sample()
	l.Entries = spare[:len(spare)-2]
	before := slices.Clone(spare)
	a, _, _ := Append(l, note(0))
	b, _, _ := Append(l, api.Entry{Kind: api.EntryNote, Blob: "other"})
	forced, _ := Force(l, 18)
	c, _, _ := Append(forced, note(0))
	cut, _ := Cut(l, 13)
	d, _, _ := Append(cut, api.Entry{Kind: api.EntryNote, Blob: "more"})
	e, _, _ := Append(a, note(0))
	f, _, _ := Append(a, api.Entry{Kind: api.EntryNote, Blob: "other"})
	Get(l, 12)
	Bytes(l)
	Crash(l, 100)
	if !slices.Equal(spare, before) {
		t.Errorf("the entries were changed")
	}
	if a.Entries[8] != note(19) || b.Entries[8].Blob != "other" || c.Entries[8] != note(19) || d.Entries[6].Blob != "more" {
		t.Errorf("entries of other logs came through")
	}
	if e.Entries[9] != note(20) || f.Entries[9].Blob != "other" {
		t.Errorf("entries of a log with a common beginning came through")
	}
}

// TestOwnEntries checks that what is returned shares no entries with the argument.
func TestOwnEntries(t *testing.T) {
	l := sample()
	appended, _, _ := Append(l, note(0))
	forced, _ := Force(l, 18)
	same, _ := Force(l, 0)
	cut, _ := Cut(l, 12)
	whole, _ := Cut(l, 11)
	for i := range l.Entries {
		l.Entries[i] = api.Entry{}
	}
	for _, r := range []api.Log{appended, forced, same, cut, whole} {
		if !Valid(r) {
			t.Errorf("%s shares its entries", show(r))
		}
	}
}
