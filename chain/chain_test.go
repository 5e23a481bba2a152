package chain

import (
	"math"
	"math/rand"
	"slices"
	"strings"
	"testing"

	"pagemend/api"
	"pagemend/journal"
)

// extremes are numbers that no log has.
var extremes = []int{math.MinInt64, math.MinInt64 + 1, -api.MaxLSN, -1, api.MaxLSN + 2, math.MaxInt64 - 1, math.MaxInt64}

// set returns a cell with data.
func set(data string) api.Cell { return api.Cell{Set: true, Data: data} }

// logOf returns the log with these entries, which get their numbers here; none is durable.
func logOf(first int, entries ...api.Entry) api.Log {
	l := api.Log{First: first, Durable: first - 1}
	for i, e := range entries {
		e.LSN = first + i
		l.Entries = append(l.Entries, e)
	}
	return l
}

// changed returns a change of a cell, which was empty.
func changed(tx, prevTx, page, prevPage int) api.Entry {
	c := api.Change{Page: page, After: set("x")}
	return api.Entry{Kind: api.EntryChange, Tx: tx, PrevTx: prevTx, PrevPage: prevPage, Change: c}
}

// undone returns the undoing of a change that changed has made.
func undone(tx, prevTx, page, prevPage, ref int) api.Entry {
	c := api.Change{Page: page, Before: set("x")}
	return api.Entry{Kind: api.EntryUndo, Tx: tx, PrevTx: prevTx, PrevPage: prevPage, Ref: ref, Change: c}
}

// turned returns an entry of a transaction that changes nothing.
func turned(kind, tx, prevTx int) api.Entry { return api.Entry{Kind: kind, Tx: tx, PrevTx: prevTx} }

// indexed returns an entry that says that a page was written.
func indexed(page, lsn int) api.Entry {
	return api.Entry{Kind: api.EntryIndex, Ref: lsn, Change: api.Change{Page: page}}
}

// note returns an entry without a chain.
func note() api.Entry { return api.Entry{Kind: api.EntryNote} }

// sample returns a right log, of which transactions and pages are: 2 commits, 3 is rolled back, 5 goes on.
func sample() api.Log {
	return logOf(1,
		changed(2, 0, 7, 0),             // 1
		changed(3, 0, 0, 0),             // 2
		indexed(7, 1),                   // 3
		changed(3, 2, 7, 1),             // 4
		turned(api.EntryCommit, 2, 1),   // 5
		turned(api.EntryAbort, 3, 4),    // 6
		undone(3, 6, 7, 4, 4),           // 7
		changed(5, 0, 63, 0),            // 8
		note(),                          // 9
		undone(3, 7, 0, 2, 2),           // 10
		turned(api.EntryEnd, 3, 10),     // 11
		changed(5, 8, 7, 7),             // 12
		undone(5, 12, 7, 12, 12),        // 13
		changed(5, 13, 7, 13),           // 14
		api.Entry{Kind: api.EntryIndex}, // 15
		changed(api.MaxTx, 0, 63, 8),    // 16
		api.Entry{Kind: api.EntryCheckpoint, Blob: "c"},
	)
}

// rest returns what is left of a log when it is cut before the number first.
func rest(l api.Log, first int) api.Log {
	l.Durable = l.First + len(l.Entries) - 1
	l.Entries = slices.Clone(l.Entries[first-l.First:])
	l.First = first
	return l
}

// badLogs are logs that are not valid.
func badLogs() []api.Log {
	with := func(change func(*api.Log)) api.Log {
		l := sample()
		change(&l)
		return l
	}
	return []api.Log{
		{},
		{First: 0, Durable: -1},
		{First: math.MinInt64, Durable: math.MaxInt64},
		{First: api.MaxLSN + 1, Durable: api.MaxLSN},
		with(func(l *api.Log) { l.First = 2 }),
		with(func(l *api.Log) { l.Durable = 18 }),
		with(func(l *api.Log) { l.Durable = -1 }),
		with(func(l *api.Log) { l.Entries[16].Kind = 9 }),
		with(func(l *api.Log) { l.Entries[0].PrevTx = 1 }),
		with(func(l *api.Log) { l.Entries[3].PrevPage = 4 }),
		with(func(l *api.Log) { l.Entries[11].PrevPage = -1 }),
		with(func(l *api.Log) { l.Entries[3].Change.Page = api.MaxPages }),
		with(func(l *api.Log) { l.Entries[8].Blob = strings.Repeat("b", api.MaxBlob+1) }),
		with(func(l *api.Log) { l.Entries[4].LSN = 4 }),
		logOf(1, make([]api.Entry, api.MaxEntries+1)...),
	}
}

// randomLog returns a valid log of few transactions and pages, whose chains lead anywhere.
func randomLog(r *rand.Rand) api.Log {
	first := 1 + r.Intn(2)*r.Intn(8)
	var entries []api.Entry
	for lsn := first; lsn < first+20; lsn++ {
		near := func() int { return max(0, lsn-1-r.Intn(5)) }
		tx, page := 1+r.Intn(2), r.Intn(2)
		e := changed(tx, near(), page, near())
		switch r.Intn(8) {
		case 0:
			e = note()
		case 1:
			e = indexed(page, near())
		case 2, 3:
			if prev := near(); prev > 0 {
				e = undone(tx, prev, page, near(), 1+r.Intn(prev))
			}
		case 4:
			if prev := near(); prev > 0 {
				e = turned(api.EntryCommit+r.Intn(3), tx, prev)
			}
		}
		entries = append(entries, e)
	}
	return logOf(first, entries...)
}

// checkEntries checks that entries are those with these numbers in l, and an error.
func checkEntries(t *testing.T, name string, l api.Log, entries []api.Entry, e api.Errno, want []int, wantError api.Errno) {
	t.Helper()
	var wantEntries []api.Entry
	for _, lsn := range want {
		wantEntries = append(wantEntries, l.Entries[lsn-l.First])
	}
	if !slices.Equal(entries, wantEntries) || e != wantError {
		t.Errorf("%s: %+v, %d, want %v, %d", name, entries, e, want, wantError)
	}
}

// TestPage checks P7.1: the entries of a page from any of them down to any number of the chain.
func TestPage(t *testing.T) {
	l := sample()
	for _, c := range []struct {
		page, last, above int
		want              []int
	}{
		{7, 14, 0, []int{1, 4, 7, 12, 13, 14}},
		{7, 14, 1, []int{4, 7, 12, 13, 14}},
		{7, 14, 4, []int{7, 12, 13, 14}},
		{7, 14, 13, []int{14}},
		{7, 14, 14, nil},
		{7, 12, 0, []int{1, 4, 7, 12}},
		{7, 12, 4, []int{7, 12}},
		{7, 1, 0, []int{1}},
		{7, 1, 1, nil},
		{7, 0, 0, nil},
		{0, 10, 0, []int{2, 10}},
		{0, 10, 2, []int{10}},
		{63, 16, 0, []int{8, 16}},
		{63, 16, 8, []int{16}},
		{5, 0, 0, nil},
		{5, 3, 3, nil},     // nothing is looked at
		{5, 999, 999, nil}, // there is no such entry
		{5, math.MaxInt64, math.MaxInt64, nil},
	} {
		entries, e := Page(l, c.page, c.last, c.above)
		checkEntries(t, "page", l, entries, e, c.want, api.OK)
	}
}

// TestPageCut checks P7.1 in a log that begins behind 1: what is gone is no error, if nobody needs it.
func TestPageCut(t *testing.T) {
	l := rest(sample(), 7)
	entries, e := Page(l, 7, 14, 4)
	checkEntries(t, "down to what is gone", l, entries, e, []int{7, 12, 13, 14}, api.OK)
	entries, e = Page(l, 7, 14, 7)
	checkEntries(t, "down to what is there", l, entries, e, []int{12, 13, 14}, api.OK)
	entries, e = Page(l, 7, 4, 4)
	checkEntries(t, "nothing", l, entries, e, nil, api.OK)
	entries, e = Page(l, 0, 10, 2)
	checkEntries(t, "another page", l, entries, e, []int{10}, api.OK)
	for _, c := range []struct{ last, above int }{{14, 0}, {14, 1}, {14, 3}, {4, 3}, {6, 5}, {18, 17}, {18, 4}} {
		entries, e = Page(l, 7, c.last, c.above)
		checkEntries(t, "gone", l, entries, e, nil, api.ErrGone)
	}
	l = rest(sample(), 18)
	entries, e = Page(l, 7, 14, 14)
	checkEntries(t, "nothing of an empty log", l, entries, e, nil, api.OK)
	entries, e = Page(l, 7, 14, 13)
	checkEntries(t, "an empty log", l, entries, e, nil, api.ErrGone)
}

// TestPageErrors checks P7.1: each error, and which is the first one.
func TestPageErrors(t *testing.T) {
	l := sample()
	bare := rest(l, 7)
	for _, c := range []struct {
		name              string
		l                 api.Log
		page, last, above int
		want              api.Errno
	}{
		{"no page before all others", l, 64, 999, 0, api.ErrRange},
		{"page -1", l, -1, 14, 0, api.ErrRange},
		{"page -1, nothing", l, -1, 0, 0, api.ErrRange},
		{"page 64, nothing", l, 64, 0, 0, api.ErrRange},
		{"last -1", l, 7, -1, 0, api.ErrRange},
		{"above -1", l, 7, 14, -1, api.ErrRange},
		{"both -1", l, 7, -1, -1, api.ErrRange},
		{"behind the end", l, 7, 18, 0, api.ErrGone},
		{"far behind the end", l, 7, math.MaxInt64, 0, api.ErrGone},
		{"another page", l, 0, 14, 0, api.ErrChain},
		{"another page in the chain only", l, 7, 10, 0, api.ErrChain},
		{"an index entry of the page", l, 7, 3, 0, api.ErrChain},
		{"an index entry of the page 0", l, 0, 15, 0, api.ErrChain},
		{"a note, whose page is 0", l, 0, 9, 0, api.ErrChain},
		{"a commit, whose page is 0", l, 0, 5, 4, api.ErrChain},
		{"an abort, whose page is 0", l, 0, 6, 4, api.ErrChain},
		{"an end, whose page is 0", l, 0, 11, 10, api.ErrChain},
		{"a checkpoint, whose page is 0", l, 0, 17, 10, api.ErrChain},
		{"above is not in the chain", l, 7, 14, 2, api.ErrChain},
		{"above is not in the chain, next to last", l, 7, 14, 3, api.ErrChain},
		{"above is not in the chain, near the end", l, 7, 12, 11, api.ErrChain},
		{"above is an entry behind last", l, 7, 4, 7, api.ErrChain},
		{"above is behind last by one", l, 7, 14, 15, api.ErrChain},
		{"above is behind all", l, 7, 14, math.MaxInt64, api.ErrChain},
		{"above with nothing", l, 7, 0, 1, api.ErrChain},
		{"the chain ends before above", l, 63, 8, 2, api.ErrChain},
		{"gone before another page", bare, 0, 2, 0, api.ErrGone},
		{"another page before gone", bare, 0, 14, 0, api.ErrChain},
		{"gone before the chain ends before above", bare, 7, 14, 2, api.ErrGone},
		{"above behind a number that is gone", bare, 7, 14, 6, api.ErrChain},
		{"last is gone, above greater", bare, 7, 3, 5, api.ErrChain},
	} {
		entries, e := Page(c.l, c.page, c.last, c.above)
		checkEntries(t, c.name, c.l, entries, e, nil, c.want)
	}
	for _, n := range extremes {
		want := api.ErrRange
		if n > 0 {
			want = api.ErrGone
		}
		entries, e := Page(l, 7, n, 0)
		checkEntries(t, "last", l, entries, e, nil, want)
		entries, e = Page(l, n, 14, 0)
		checkEntries(t, "page", l, entries, e, nil, api.ErrRange)
		if n < 0 {
			entries, e = Page(l, 7, 14, n)
			checkEntries(t, "above", l, entries, e, nil, api.ErrRange)
		}
	}
}

// TestPageWrong checks P7.1: a chain that leads to an entry that is not of the page, behind entries that are.
func TestPageWrong(t *testing.T) {
	l := logOf(1, changed(1, 0, 4, 0), changed(1, 1, 3, 1), changed(1, 2, 3, 2), note(), changed(1, 3, 3, 4))
	for _, c := range []struct {
		last, above int
		want        []int
		wantError   api.Errno
	}{
		{3, 0, nil, api.ErrChain}, {3, 1, []int{2, 3}, api.OK}, {3, 2, []int{3}, api.OK},
		{5, 0, nil, api.ErrChain}, {5, 3, nil, api.ErrChain}, {5, 4, []int{5}, api.OK},
	} {
		entries, e := Page(l, 3, c.last, c.above)
		checkEntries(t, "wrong chain", l, entries, e, c.want, c.wantError)
	}
}

// TestTx checks P7.2: the entries of a transaction from any of them down to its first one.
func TestTx(t *testing.T) {
	l := sample()
	for _, want := range [][]int{nil, {1}, {1, 5}, {2}, {2, 4, 6}, {2, 4, 6, 7, 10, 11}, {8, 12, 13, 14}, {16}} {
		entries, e := Tx(l, lastOf(want))
		checkEntries(t, "tx", l, entries, e, want, api.OK)
	}
	l = rest(l, 8)
	for _, want := range [][]int{nil, {8}, {8, 12, 13, 14}, {16}} {
		entries, e := Tx(l, lastOf(want))
		checkEntries(t, "tx, cut", l, entries, e, want, api.OK)
	}
	entries, e := Tx(journal.New(), 0)
	checkEntries(t, "nothing of nothing", l, entries, e, nil, api.OK)
}

// TestTxErrors checks P7.2: each error, and which is the first one.
func TestTxErrors(t *testing.T) {
	wrong := logOf(5, changed(1, 0, 0, 0), note(), changed(2, 6, 0, 0), changed(1, 5, 0, 0), changed(2, 8, 0, 0),
		changed(1, 4, 0, 0), changed(2, 10, 0, 0), changed(1, 3, 0, 0), changed(1, 12, 0, 0))
	for _, c := range []struct {
		name string
		l    api.Log
		last int
		want api.Errno
	}{
		{"-1", sample(), -1, api.ErrRange},
		{"behind the end", sample(), 18, api.ErrGone},
		{"a note", sample(), 9, api.ErrChain},
		{"an index entry", sample(), 3, api.ErrChain},
		{"a checkpoint", sample(), 17, api.ErrChain},
		{"it begins before First", rest(sample(), 8), 11, api.ErrGone},
		{"it lies before First", rest(sample(), 8), 7, api.ErrGone},
		{"no entries", journal.New(), 1, api.ErrGone},
		{"the next entry to come", rest(sample(), 18), 18, api.ErrGone},
		{"a note before", wrong, 7, api.ErrChain},
		{"another transaction before", wrong, 9, api.ErrChain},
		{"gone before", wrong, 10, api.ErrGone},
		{"another transaction before what is gone", wrong, 11, api.ErrChain},
		{"gone before, twice", wrong, 13, api.ErrGone},
	} {
		entries, e := Tx(c.l, c.last)
		checkEntries(t, c.name, c.l, entries, e, nil, c.want)
		numbers, e := Pending(c.l, c.last)
		if len(numbers) != 0 || e != c.want {
			t.Errorf("%s: Pending %v, %d, want %d", c.name, numbers, e, c.want)
		}
	}
	for _, n := range extremes {
		want := api.ErrRange
		if n > 0 {
			want = api.ErrGone
		}
		entries, e := Tx(sample(), n)
		checkEntries(t, "last", sample(), entries, e, nil, want)
	}
}

// TestHeads checks P7.3: the last entry of each page, whether it is a change or the undoing of one, and 0 for all others.
func TestHeads(t *testing.T) {
	check := func(name string, l api.Log, want map[int]int) {
		t.Helper()
		heads := Heads(l)
		if len(heads) != api.MaxPages {
			t.Fatalf("%s: %d pages", name, len(heads))
		}
		for page, lsn := range heads {
			if lsn != want[page] {
				t.Errorf("%s: page %d: %d, want %d", name, page, lsn, want[page])
			}
		}
	}
	l := sample()
	check("all", l, map[int]int{0: 10, 7: 14, 63: 16})
	check("from the second undoing on", rest(l, 10), map[int]int{0: 10, 7: 14, 63: 16})
	check("behind it", rest(l, 11), map[int]int{7: 14, 63: 16})
	check("only the index entry", rest(l, 15), map[int]int{63: 16})
	check("only the checkpoint", rest(l, 17), nil)
	check("an empty log", rest(l, 18), nil)
	check("a new log", journal.New(), nil)
	l.Entries = l.Entries[:4]
	check("the beginning", l, map[int]int{0: 2, 7: 4})
}

// TestPending checks P7.4: the changes that nothing up to last undoes.
func TestPending(t *testing.T) {
	l := sample()
	for last, want := range map[int][]int{
		0: nil, 1: {1}, 5: {1}, 2: {2}, 4: {2, 4}, 6: {2, 4}, 7: {2}, 10: nil, 11: nil, 8: {8}, 12: {8, 12}, 13: {8}, 14: {8, 14}, 16: {16},
	} {
		numbers, e := Pending(l, last)
		if !slices.Equal(numbers, want) || e != api.OK {
			t.Errorf("Pending up to %d: %v, %d, want %v", last, numbers, e, want)
		}
	}
	// Another transaction undoes nothing of this one; and what undoes is not looked at twice.
	l = logOf(1, changed(1, 0, 0, 0), changed(2, 0, 0, 1), undone(2, 2, 0, 2, 1), changed(1, 1, 0, 3), undone(1, 4, 0, 4, 1), undone(1, 5, 0, 5, 1), undone(1, 6, 0, 6, 5))
	for last, want := range map[int][]int{3: {2}, 4: {1, 4}, 5: {4}, 6: {4}, 7: {4}} {
		numbers, e := Pending(l, last)
		if !slices.Equal(numbers, want) || e != api.OK {
			t.Errorf("Pending of a wrong log up to %d: %v, %d, want %v", last, numbers, e, want)
		}
	}
}

// TestNoLog checks P7.1 to P7.5: a log that is not valid is refused first.
func TestNoLog(t *testing.T) {
	for i, l := range badLogs() {
		for _, n := range []int{0, 1, -1, 7, math.MaxInt64} {
			entries, e := Page(l, n, n, n)
			if len(entries) != 0 || e != api.ErrLog {
				t.Errorf("log %d: Page %v, %d", i, entries, e)
			}
			entries, e = Tx(l, n)
			if len(entries) != 0 || e != api.ErrLog {
				t.Errorf("log %d: Tx %v, %d", i, entries, e)
			}
			numbers, e := Pending(l, n)
			if len(numbers) != 0 || e != api.ErrLog {
				t.Errorf("log %d: Pending %v, %d", i, numbers, e)
			}
		}
		if heads := Heads(l); len(heads) != 0 {
			t.Errorf("log %d: Heads %v", i, heads)
		}
		if e := Check(l); e != api.ErrLog {
			t.Errorf("log %d: Check %d", i, e)
		}
	}
}

// TestKept checks R2: no function changes its log, nor what lies behind its entries, and results are memory of their own.
func TestKept(t *testing.T) {
	all := sample()
	l := all
	l.Entries = l.Entries[:14]
	entries, _ := Page(l, 7, 14, 0)
	others, _ := Tx(l, 14)
	numbers, _ := Pending(l, 14)
	heads := Heads(l)
	Check(l)
	entries, others, numbers, heads = append(entries, note()), append(others, note()), append(numbers, 0), append(heads, 0)
	clear(entries)
	clear(others)
	clear(numbers)
	clear(heads)
	if !slices.Equal(all.Entries, sample().Entries) || len(l.Entries) != 14 || l.First != 1 || l.Durable != 0 {
		t.Errorf("changed: %+v", all)
	}
}

// plainWalk returns the numbers of a walk back from last to above, descending, as the chapter says it, and where it ends.
func plainWalk(l api.Log, last, above int, belongs func(api.Entry) bool, prev func(api.Entry) int) (numbers []int, end int, err api.Errno) {
	if last <= above {
		return nil, last, api.OK
	}
	e, err := journal.Get(l, last)
	if err != api.OK {
		return nil, 0, api.ErrGone
	}
	if !belongs(e) {
		return nil, 0, api.ErrChain
	}
	before, end, err := plainWalk(l, prev(e), above, belongs, prev)
	if err != api.OK {
		return nil, 0, err
	}
	return append(before, last), end, api.OK
}

// plainPage returns the numbers of the entries of Page.
func plainPage(l api.Log, page, last, above int) ([]int, api.Errno) {
	belongs := func(e api.Entry) bool {
		return (e.Kind == api.EntryChange || e.Kind == api.EntryUndo) && e.Change.Page == page
	}
	numbers, end, e := plainWalk(l, last, above, belongs, func(e api.Entry) int { return e.PrevPage })
	if e == api.OK && end < above {
		return nil, api.ErrChain
	}
	return numbers, e
}

// plainTx returns the numbers of the entries of Tx.
func plainTx(l api.Log, last int) ([]int, api.Errno) {
	head, _ := journal.Get(l, last)
	belongs := func(e api.Entry) bool { return e.Tx == head.Tx && e.Tx != 0 }
	numbers, _, e := plainWalk(l, last, 0, belongs, func(e api.Entry) int { return e.PrevTx })
	return numbers, e
}

// plainPending returns the numbers of Pending.
func plainPending(l api.Log, last int) ([]int, api.Errno) {
	numbers, e := plainTx(l, last)
	var pending []int
	for _, lsn := range numbers {
		left := l.Entries[lsn-l.First].Kind == api.EntryChange
		for _, other := range numbers {
			u := l.Entries[other-l.First]
			left = left && !(u.Kind == api.EntryUndo && u.Ref == lsn)
		}
		if left {
			pending = append(pending, lsn)
		}
	}
	return pending, e
}

// TestRandom checks P7.1 to P7.4 with logs whose chains lead anywhere.
func TestRandom(t *testing.T) {
	r := rand.New(rand.NewSource(7))
	counts := map[api.Errno]int{}
	for range 800 {
		l := randomLog(r)
		if !journal.Valid(l) {
			t.Fatalf("not valid: %+v", l)
		}
		end := l.First + len(l.Entries)
		heads := make([]int, api.MaxPages)
		for _, e := range l.Entries {
			if e.Kind == api.EntryChange || e.Kind == api.EntryUndo {
				heads[e.Change.Page] = e.LSN
			}
		}
		if got := Heads(l); !slices.Equal(got, heads) {
			t.Errorf("Heads(%+v): %v, want %v", l, got, heads)
		}
		for last := range end + 2 {
			want, wantError := plainTx(l, last)
			entries, e := Tx(l, last)
			checkEntries(t, "random tx", l, entries, e, want, wantError)
			want, wantError = plainPending(l, last)
			if numbers, e := Pending(l, last); !slices.Equal(numbers, want) || e != wantError {
				t.Errorf("Pending(%+v, %d): %v, %d, want %v, %d", l, last, numbers, e, want, wantError)
			}
			for page := range 3 {
				above := r.Intn(last + 2)
				want, wantError := plainPage(l, page, last, above)
				entries, e := Page(l, page, last, above)
				checkEntries(t, "random page", l, entries, e, want, wantError)
				counts[e]++
			}
		}
	}
	if counts[api.OK] < 1000 || counts[api.ErrGone] < 500 || counts[api.ErrChain] < 1000 {
		t.Errorf("random pages: %v", counts)
	}
}

// TestLong checks that the longest chains are walked, each in one go.
func TestLong(t *testing.T) {
	first := api.MaxLSN - api.MaxEntries + 1
	var entries []api.Entry
	for lsn := first; lsn <= api.MaxLSN; lsn++ {
		prev := lsn - 1
		if lsn == first {
			prev = 0
		}
		entries = append(entries, changed(1, prev, 9, prev))
	}
	l := logOf(first, entries...)
	for range 20 {
		page, e := Page(l, 9, api.MaxLSN, 0)
		if !slices.Equal(page, l.Entries) || e != api.OK {
			t.Errorf("Page: %d entries, %d", len(page), e)
		}
		tx, e := Tx(l, api.MaxLSN)
		if !slices.Equal(tx, l.Entries) || e != api.OK {
			t.Errorf("Tx: %d entries, %d", len(tx), e)
		}
		pending, e := Pending(l, api.MaxLSN)
		if len(pending) != api.MaxEntries || pending[0] != first || lastOf(pending) != api.MaxLSN || e != api.OK {
			t.Errorf("Pending: %d numbers, %d", len(pending), e)
		}
		if e := Check(l); e != api.OK {
			t.Errorf("Check: %d", e)
		}
	}
}
