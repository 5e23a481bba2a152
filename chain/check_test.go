package chain

import (
	"math/rand"
	"slices"
	"testing"

	"pagemend/api"
	"pagemend/journal"
)

// slot returns an entry with another slot.
func slot(e api.Entry, slot int) api.Entry {
	e.Change.Slot = slot
	return e
}

// cells returns an entry with other cells.
func cells(e api.Entry, before, after api.Cell) api.Entry {
	e.Change.Before, e.Change.After = before, after
	return e
}

// abort, commit and end return the entries of these kinds.
func abort(tx, prevTx int) api.Entry  { return turned(api.EntryAbort, tx, prevTx) }
func commit(tx, prevTx int) api.Entry { return turned(api.EntryCommit, tx, prevTx) }
func end(tx, prevTx int) api.Entry    { return turned(api.EntryEnd, tx, prevTx) }

// checkCase is a log, and what Check says of it: that it is right, or at which of its entries it begins to be wrong.
type checkCase struct {
	name string
	l    api.Log
	bad  int // 0: right
}

// checkCases checks cases; the entries before the first wrong one are right by themselves.
func checkCases(t *testing.T, cases []checkCase) {
	t.Helper()
	for _, c := range cases {
		if !journal.Valid(c.l) {
			t.Errorf("%s: not valid", c.name)
		}
		for n := range len(c.l.Entries) + 1 {
			part := c.l
			part.Entries = c.l.Entries[:n]
			want := api.OK
			if c.bad > 0 && n > c.bad-c.l.First {
				want = api.ErrChain
			}
			if e := Check(part); e != want {
				t.Errorf("%s, %d entries: %d, want %d", c.name, n, e, want)
			}
			if plain := plainRight(part); plain != (want == api.OK) {
				t.Errorf("%s, %d entries: the plain check says %v", c.name, n, plain)
			}
		}
	}
}

// TestCheckExample checks the chapter's example.
func TestCheckExample(t *testing.T) {
	checkCases(t, []checkCase{{"one change", logOf(1, changed(1, 0, 0, 0)), 0}})
}

// TestCheckRight checks P7.5: right logs.
func TestCheckRight(t *testing.T) {
	checkCases(t, []checkCase{
		{"new", journal.New(), 0},
		{"empty, later", logOf(api.MaxLSN), 0},
		{"sample", sample(), 0},
		{"no transactions", logOf(1, note(), indexed(3, 0), indexed(3, 2), api.Entry{Kind: api.EntryCheckpoint}), 0},
		{"a commit with nothing pending", logOf(1, changed(1, 0, 2, 0), undone(1, 1, 2, 1, 1), commit(1, 2)), 0},
		{"two cells, undone in the order of changes", logOf(1,
			changed(1, 0, 2, 0), slot(changed(1, 1, 2, 1), 1), abort(1, 2), undone(1, 3, 2, 2, 1), slot(undone(1, 4, 2, 4, 2), 1), end(1, 5)), 0},
		{"two pages, undone in the order of changes", logOf(1,
			changed(1, 0, 2, 0), changed(1, 1, 3, 0), abort(1, 2), undone(1, 3, 2, 1, 1), undone(1, 4, 3, 2, 2), end(1, 5)), 0},
		{"one cell, changed three times", logOf(1,
			changed(1, 0, 2, 0), changed(1, 1, 2, 1), undone(1, 2, 2, 2, 2), changed(1, 3, 2, 3), abort(1, 4),
			undone(1, 5, 2, 4, 4), undone(1, 6, 2, 6, 1), end(1, 7)), 0},
		{"another transaction has changed the cell since", logOf(1,
			changed(1, 0, 2, 0), changed(2, 0, 2, 1), undone(1, 1, 2, 2, 1), undone(2, 2, 2, 3, 2)), 0},
		{"a cell from one text to another one, and back", logOf(1,
			cells(changed(1, 0, 2, 0), set("a"), set("b")), cells(undone(1, 1, 2, 1, 1), set("b"), set("a"))), 0},
		{"a cell that stays", logOf(1,
			cells(changed(1, 0, 2, 0), set(""), set("")), cells(undone(1, 1, 2, 1, 1), set(""), set(""))), 0},
		{"ends with nothing to undo", logOf(1, changed(1, 0, 2, 0), undone(1, 1, 2, 1, 1), abort(1, 2), end(1, 3)), 0},
		{"two rollbacks at a time", logOf(1,
			changed(1, 0, 2, 0), changed(2, 0, 3, 0), abort(2, 2), abort(1, 1), undone(1, 4, 2, 1, 1), undone(2, 3, 3, 2, 2), end(1, 5), end(2, 6)), 0},
		{"others go on behind an abort", logOf(1,
			changed(1, 0, 2, 0), abort(1, 1), changed(2, 0, 2, 1), commit(2, 3), note()), 0},
	})
}

// TestCheckTx checks P7.5: chains of transactions.
func TestCheckTx(t *testing.T) {
	checkCases(t, []checkCase{
		{"not the one before", logOf(1, changed(1, 0, 2, 0), changed(1, 1, 2, 1), changed(1, 1, 2, 2)), 3},
		{"0 behind another one", logOf(1, changed(1, 0, 2, 0), changed(1, 0, 2, 1)), 2},
		{"one of another transaction", logOf(1, changed(1, 0, 2, 0), changed(2, 1, 2, 1)), 2},
		{"a note", logOf(1, note(), changed(1, 1, 2, 0)), 2},
		{"an abort of a transaction without entries", logOf(1, note(), abort(1, 1)), 2},
		{"a commit that leaves one out", logOf(1, changed(1, 0, 2, 0), changed(1, 1, 2, 1), commit(1, 1)), 3},
		{"an undoing that leaves one out", logOf(1, changed(1, 0, 2, 0), slot(changed(1, 1, 2, 1), 1), undone(1, 1, 2, 2, 1)), 3},
		{"an abort that leaves one out", logOf(1, changed(1, 0, 2, 0), undone(1, 1, 2, 1, 1), abort(1, 1)), 3},
		{"an end that leaves one out", logOf(1, changed(1, 0, 2, 0), abort(1, 1), undone(1, 2, 2, 1, 1), end(1, 2)), 4},
		{"two commits", logOf(1, changed(1, 0, 2, 0), commit(1, 1), commit(1, 2)), 3},
		{"a change behind a commit", logOf(1, changed(1, 0, 2, 0), commit(1, 1), changed(1, 2, 2, 1)), 3},
		{"a change behind a commit, from 0 on", logOf(1, changed(1, 0, 2, 0), commit(1, 1), changed(1, 0, 2, 1)), 3},
		{"an undoing behind a commit", logOf(1, changed(1, 0, 2, 0), commit(1, 1), undone(1, 2, 2, 1, 1)), 3},
		{"an abort behind a commit", logOf(1, changed(1, 0, 2, 0), commit(1, 1), note(), abort(1, 2)), 4},
		{"two ends", logOf(1, changed(1, 0, 2, 0), abort(1, 1), undone(1, 2, 2, 1, 1), end(1, 3), end(1, 4)), 5},
		{"a change behind an end", logOf(1, changed(1, 0, 2, 0), undone(1, 1, 2, 1, 1), abort(1, 2), end(1, 3), changed(1, 4, 2, 2)), 5},
	})
}

// TestCheckTxCut checks P7.5: the first entries of transactions in a log that begins behind 1.
func TestCheckTxCut(t *testing.T) {
	checkCases(t, []checkCase{
		{"each number before", logOf(5, changed(1, 4, 2, 0), changed(2, 1, 2, 5), changed(3, 3, 2, 6), changed(4, 0, 2, 7)), 0},
		{"one number for two", logOf(5, changed(1, 4, 2, 0), changed(2, 4, 2, 5)), 0},
		{"First itself", logOf(5, note(), changed(1, 5, 2, 0)), 6},
		{"an entry of another transaction", logOf(5, changed(1, 4, 2, 0), changed(2, 5, 2, 5)), 6},
		{"not the first one", logOf(5, changed(1, 4, 2, 0), changed(1, 4, 2, 5)), 6},
		{"0, not the first one", logOf(5, changed(1, 4, 2, 0), changed(1, 0, 2, 5)), 6},
		{"all kinds", logOf(5, commit(1, 4), abort(2, 3), end(3, 2), undone(4, 1, 2, 0, 1)), 0},
		{"behind a commit", logOf(5, commit(1, 4), commit(1, 5)), 6},
		{"behind a commit, again from before", logOf(5, commit(1, 4), changed(1, 4, 2, 0)), 6},
		{"behind an end", logOf(5, end(1, 4), changed(1, 5, 2, 0)), 6},
		{"behind an end, a second one", logOf(5, end(1, 4), end(1, 5)), 6},
	})
}

// TestCheckPage checks P7.5: chains of pages.
func TestCheckPage(t *testing.T) {
	checkCases(t, []checkCase{
		{"not the one before", logOf(1, changed(1, 0, 2, 0), changed(1, 1, 2, 1), changed(1, 2, 2, 1)), 3},
		{"0 behind another one", logOf(1, changed(1, 0, 2, 0), changed(2, 0, 2, 0)), 2},
		{"one of another page", logOf(1, changed(1, 0, 2, 0), changed(1, 1, 3, 1)), 2},
		{"one of another page, later", logOf(1, changed(1, 0, 2, 0), changed(1, 1, 3, 0), changed(1, 2, 2, 2)), 3},
		{"an index entry", logOf(1, changed(1, 0, 2, 0), indexed(2, 1), changed(1, 1, 2, 2)), 3},
		{"a note", logOf(1, note(), changed(1, 0, 0, 1)), 2},
		{"an undoing that leaves one out", logOf(1, changed(1, 0, 2, 0), changed(2, 0, 2, 1), undone(1, 1, 2, 1, 1)), 3},
		{"an undoing from 0 on", logOf(1, changed(1, 0, 2, 0), undone(1, 1, 2, 0, 1)), 2},
		{"undone by a rollback, then not seen", logOf(1, changed(1, 0, 2, 0), undone(1, 1, 2, 1, 1), changed(1, 2, 2, 1)), 3},
		{"each number before", logOf(5, changed(1, 0, 0, 4), changed(1, 5, 1, 1), changed(1, 6, 2, 0), changed(1, 7, 3, 4)), 0},
		{"an undoing, each number before", logOf(5, undone(1, 4, 0, 3, 2), undone(1, 5, 1, 0, 1), undone(1, 6, 63, 4, 3)), 0},
		{"First itself", logOf(5, changed(1, 0, 0, 4), changed(1, 5, 1, 5)), 6},
		{"First, a note", logOf(5, note(), changed(1, 0, 0, 5)), 6},
		{"before First, not the first one", logOf(5, changed(1, 0, 0, 4), changed(1, 5, 0, 4)), 6},
		{"0, not the first one", logOf(5, changed(1, 0, 0, 4), changed(1, 5, 0, 0)), 6},
	})
}

// TestCheckUndo checks P7.5: what an EntryUndo may undo.
func TestCheckUndo(t *testing.T) {
	checkCases(t, []checkCase{
		{"an undoing", logOf(1, changed(1, 0, 2, 0), undone(1, 1, 2, 1, 1), cells(undone(1, 2, 2, 2, 2), api.Cell{}, set("x"))), 3},
		{"a note", logOf(1, note(), changed(1, 0, 2, 0), undone(1, 2, 2, 2, 1)), 3},
		{"an index entry", logOf(1, indexed(2, 0), changed(1, 0, 2, 0), undone(1, 2, 2, 2, 1)), 3},
		{"an abort", logOf(1, changed(1, 0, 0, 0), abort(1, 1), cells(undone(1, 2, 0, 1, 2), api.Cell{}, api.Cell{})), 3},
		{"a change of another transaction", logOf(1, changed(2, 0, 2, 0), changed(1, 0, 3, 0), undone(1, 2, 2, 1, 1)), 3},
		{"a change of another transaction, which goes on", logOf(1, changed(2, 0, 2, 0), changed(1, 0, 2, 1), undone(1, 2, 2, 2, 1)), 3},
		{"another slot", logOf(1, changed(1, 0, 2, 0), slot(undone(1, 1, 2, 1, 1), 1)), 2},
		{"another page", logOf(1, changed(1, 0, 2, 0), undone(1, 1, 3, 0, 1)), 2},
		{"another Before", logOf(1, changed(1, 0, 2, 0), cells(undone(1, 1, 2, 1, 1), set("y"), api.Cell{})), 2},
		{"Before is not set", logOf(1, changed(1, 0, 2, 0), cells(undone(1, 1, 2, 1, 1), api.Cell{}, api.Cell{})), 2},
		{"another After", logOf(1, changed(1, 0, 2, 0), cells(undone(1, 1, 2, 1, 1), set("x"), set(""))), 2},
		{"the change again", logOf(1, changed(1, 0, 2, 0), cells(undone(1, 1, 2, 1, 1), api.Cell{}, set("x"))), 2},
		{"twice", logOf(1, changed(1, 0, 2, 0), undone(1, 1, 2, 1, 1), undone(1, 2, 2, 2, 1)), 3},
		{"twice, with another change between", logOf(1,
			changed(1, 0, 2, 0), undone(1, 1, 2, 1, 1), changed(1, 2, 2, 2), undone(1, 3, 2, 3, 1)), 4},
		{"twice, with another change undone between", logOf(1,
			changed(1, 0, 2, 0), changed(1, 1, 2, 1), undone(1, 2, 2, 2, 2), undone(1, 3, 2, 3, 1), undone(1, 4, 2, 4, 2)), 5},
		{"the first one of two changes", logOf(1, changed(1, 0, 2, 0), changed(1, 1, 2, 1), undone(1, 2, 2, 2, 1)), 3},
		{"the second one of three changes", logOf(1,
			changed(1, 0, 2, 0), changed(1, 1, 2, 1), changed(1, 2, 2, 2), undone(1, 3, 2, 3, 2)), 4},
		{"the first one of three changes, the last one undone", logOf(1,
			changed(1, 0, 2, 0), changed(1, 1, 2, 1), changed(1, 2, 2, 2), undone(1, 3, 2, 3, 3), undone(1, 4, 2, 4, 1)), 5},
	})
}

// TestCheckUndoCut checks P7.5: undoing changes before First, of which nothing is known but that they are undone once and behind all later ones.
func TestCheckUndoCut(t *testing.T) {
	checkCases(t, []checkCase{
		{"three of them", logOf(5, undone(1, 4, 2, 4, 4), undone(1, 5, 2, 5, 2), undone(1, 6, 3, 0, 3), abort(1, 7), end(1, 8)), 0},
		{"in any order", logOf(5, undone(1, 4, 2, 4, 2), undone(1, 5, 2, 5, 4), undone(1, 6, 2, 6, 3)), 0},
		{"behind one that is there", logOf(5, changed(1, 4, 2, 0), undone(1, 5, 2, 5, 5), undone(1, 6, 2, 6, 4)), 0},
		{"before one that is there", logOf(5, changed(1, 4, 2, 0), undone(1, 5, 2, 5, 4)), 6},
		{"before one of two that are there", logOf(5,
			changed(1, 4, 2, 0), changed(1, 5, 2, 5), undone(1, 6, 2, 6, 6), undone(1, 7, 2, 7, 3)), 8},
		{"before one of another slot", logOf(5, slot(changed(1, 4, 2, 0), 1), undone(1, 5, 2, 5, 4)), 0},
		{"before one of another page", logOf(5, changed(1, 4, 3, 0), undone(1, 5, 2, 0, 4)), 0},
		{"before one of another transaction", logOf(5, changed(2, 4, 2, 0), undone(1, 3, 2, 5, 3)), 0},
		{"twice", logOf(5, undone(1, 4, 2, 0, 4), undone(1, 5, 2, 5, 4)), 6},
		{"twice, in two cells", logOf(5, undone(1, 4, 2, 0, 4), slot(undone(1, 5, 2, 5, 4), 1)), 6},
		{"twice, by two transactions", logOf(5, undone(1, 4, 2, 0, 3), undone(2, 4, 2, 5, 3)), 6},
		{"First itself, a note", logOf(5, note(), changed(1, 4, 2, 0), undone(1, 6, 2, 6, 5)), 7},
		{"First itself, a change", logOf(5, changed(1, 4, 2, 0), undone(1, 5, 2, 5, 5)), 0},
	})
}

// TestCheckEnd checks P7.5: what follows an EntryAbort, and when an EntryEnd may come.
func TestCheckEnd(t *testing.T) {
	checkCases(t, []checkCase{
		{"a change behind an abort", logOf(1, changed(1, 0, 2, 0), abort(1, 1), changed(1, 2, 2, 1)), 3},
		{"a commit behind an abort", logOf(1, changed(1, 0, 2, 0), abort(1, 1), commit(1, 2)), 3},
		{"an abort behind an abort", logOf(1, changed(1, 0, 2, 0), abort(1, 1), abort(1, 2)), 3},
		{"a change in a rollback", logOf(1, changed(1, 0, 2, 0), abort(1, 1), undone(1, 2, 2, 1, 1), changed(1, 3, 2, 3)), 4},
		{"a commit of a rollback", logOf(1, changed(1, 0, 2, 0), abort(1, 1), undone(1, 2, 2, 1, 1), commit(1, 3)), 4},
		{"an end without an abort", logOf(1, changed(1, 0, 2, 0), undone(1, 1, 2, 1, 1), end(1, 2)), 3},
		{"an end with an abort of another one", logOf(1,
			changed(1, 0, 2, 0), undone(1, 1, 2, 1, 1), changed(2, 0, 3, 0), abort(2, 3), end(1, 2)), 5},
		{"a change is pending", logOf(1, changed(1, 0, 2, 0), abort(1, 1), end(1, 2)), 3},
		{"one of two changes is pending", logOf(1,
			changed(1, 0, 2, 0), changed(1, 1, 3, 0), abort(1, 2), undone(1, 3, 3, 2, 2), end(1, 4)), 5},
		{"one of two changes of a cell is pending", logOf(1,
			changed(1, 0, 2, 0), changed(1, 1, 2, 1), abort(1, 2), undone(1, 3, 2, 2, 2), end(1, 4)), 5},
		{"a change of another transaction is pending", logOf(1,
			changed(1, 0, 2, 0), changed(2, 0, 2, 1), abort(1, 1), undone(1, 3, 2, 2, 1), end(1, 4)), 0},
	})
}

// TestCheckEndCut checks P7.5: an EntryEnd of a transaction that has an entry before First.
func TestCheckEndCut(t *testing.T) {
	checkCases(t, []checkCase{
		{"nothing but its end", logOf(5, end(1, 4)), 0},
		{"an undoing before", logOf(5, undone(1, 4, 2, 0, 1), note(), end(1, 5)), 0},
		{"a change that is undone before", logOf(5, changed(1, 4, 2, 0), undone(1, 5, 2, 5, 5), end(1, 6)), 0},
		{"a change that is pending", logOf(5, changed(1, 4, 2, 0), end(1, 5)), 6},
		{"a change that is pending, another one before First undone", logOf(5,
			changed(1, 4, 2, 0), undone(1, 5, 3, 0, 1), end(1, 6)), 7},
		{"a change that is pending, with an abort", logOf(5, changed(1, 4, 2, 0), abort(1, 5), end(1, 6)), 7},
		{"no entry before First, and no abort", logOf(5, changed(1, 0, 2, 0), undone(1, 5, 2, 5, 5), end(1, 6)), 7},
		{"no entry before First but of another one", logOf(5,
			changed(2, 4, 2, 0), changed(1, 0, 2, 5), undone(1, 6, 2, 6, 6), end(1, 7)), 8},
		{"no entry before First, with an abort", logOf(5, changed(1, 0, 2, 0), abort(1, 5), undone(1, 6, 2, 5, 5), end(1, 7)), 0},
		{"behind an abort before First a change", logOf(5, abort(1, 4), changed(1, 5, 2, 0)), 6},
	})
}

// TestCheckKinds checks P7.5: at the end of an abort nothing of another kind may have come, whatever kind it is.
func TestCheckKinds(t *testing.T) {
	for kind := api.EntryChange; kind <= api.EntryNote; kind++ {
		e := turned(kind, 1, 3)
		want := api.ErrChain
		switch kind {
		case api.EntryChange:
			e = changed(1, 3, 2, 2)
		case api.EntryUndo:
			e, want = undone(1, 3, 2, 2, 2), api.OK
		case api.EntryEnd: // the second change is pending
		case api.EntryCheckpoint, api.EntryIndex, api.EntryNote:
			e, want = api.Entry{Kind: kind}, api.OK
		}
		if got := Check(logOf(1, changed(1, 0, 2, 0), changed(1, 1, 2, 1), abort(1, 2), e)); got != want {
			t.Errorf("kind %d: %d, want %d", kind, got, want)
		}
	}
}

// plainRight reports whether a valid log is right, entry by entry, as the chapter says it.
func plainRight(l api.Log) bool {
	for i, e := range l.Entries {
		before := l.Entries[:i]
		if !plainTxRight(l, before, e) || !plainPageRight(l, before, e) || !plainUndoRight(l, before, e) || !plainEndRight(before, e) {
			return false
		}
	}
	return true
}

// of returns the entries of a transaction.
func of(entries []api.Entry, tx int) []api.Entry {
	return slices.DeleteFunc(slices.Clone(entries), func(e api.Entry) bool { return e.Tx != tx })
}

// kindsOf reports whether there is an entry of one of these kinds.
func kindsOf(entries []api.Entry, kinds ...int) bool {
	return slices.ContainsFunc(entries, func(e api.Entry) bool { return slices.Contains(kinds, e.Kind) })
}

// undoneIn reports whether an entry is undone.
func undoneIn(entries []api.Entry, lsn int) bool {
	return slices.ContainsFunc(entries, func(e api.Entry) bool { return e.Kind == api.EntryUndo && e.Ref == lsn })
}

// changesIn reports whether an entry changes a page.
func changesIn(e api.Entry) bool { return e.Kind == api.EntryChange || e.Kind == api.EntryUndo }

// plainTxRight checks what the chapter says of Tx.
func plainTxRight(l api.Log, before []api.Entry, e api.Entry) bool {
	if e.Tx == 0 {
		return true
	}
	own := of(before, e.Tx)
	switch {
	case kindsOf(own, api.EntryCommit, api.EntryEnd):
		return false
	case kindsOf(own, api.EntryAbort) && e.Kind != api.EntryUndo && e.Kind != api.EntryEnd:
		return false
	case len(own) > 0:
		return e.PrevTx == own[len(own)-1].LSN
	}
	return e.PrevTx == 0 || l.First > 1 && e.PrevTx < l.First
}

// plainPageRight checks what the chapter says of PrevPage.
func plainPageRight(l api.Log, before []api.Entry, e api.Entry) bool {
	if !changesIn(e) {
		return true
	}
	for _, b := range slices.Backward(before) {
		if changesIn(b) && b.Change.Page == e.Change.Page {
			return e.PrevPage == b.LSN
		}
	}
	return e.PrevPage == 0 || e.PrevPage < l.First
}

// plainUndoRight checks what the chapter says of an EntryUndo.
func plainUndoRight(l api.Log, before []api.Entry, e api.Entry) bool {
	if e.Kind != api.EntryUndo {
		return true
	}
	if e.Ref >= l.First {
		r := before[e.Ref-l.First]
		if r.Kind != api.EntryChange || r.Tx != e.Tx || r.Change.Page != e.Change.Page || r.Change.Slot != e.Change.Slot ||
			r.Change.Before != e.Change.After || r.Change.After != e.Change.Before {
			return false
		}
	}
	for _, b := range of(before, e.Tx) {
		same := b.Change.Page == e.Change.Page && b.Change.Slot == e.Change.Slot
		if b.Kind == api.EntryChange && b.LSN > e.Ref && same && !undoneIn(before, b.LSN) {
			return false
		}
	}
	return !undoneIn(before, e.Ref)
}

// plainEndRight checks what the chapter says of an EntryEnd.
func plainEndRight(before []api.Entry, e api.Entry) bool {
	if e.Kind != api.EntryEnd {
		return true
	}
	own := append(of(before, e.Tx), e)
	for _, b := range own {
		if b.Kind == api.EntryChange && !undoneIn(own, b.LSN) {
			return false
		}
	}
	return kindsOf(own, api.EntryAbort) || own[0].PrevTx > 0
}

// writer writes right logs.
type writer struct {
	r       *rand.Rand
	l       api.Log
	running []int
	next    int // transaction
	aborted map[int]bool
}

// add appends an entry, with its place in the chains.
func (w *writer) add(e api.Entry) {
	if own := of(w.l.Entries, e.Tx); e.Tx > 0 && len(own) > 0 {
		e.PrevTx = own[len(own)-1].LSN
	}
	for _, b := range w.l.Entries {
		if changesIn(e) && changesIn(b) && b.Change.Page == e.Change.Page {
			e.PrevPage = b.LSN
		}
	}
	w.l, _, _ = journal.Append(w.l, e)
}

// pending returns the changes of a transaction that may be undone next.
func (w *writer) pending(tx int) []api.Entry {
	last := map[[2]int]api.Entry{}
	for _, e := range of(w.l.Entries, tx) {
		if e.Kind == api.EntryChange && !undoneIn(w.l.Entries, e.LSN) {
			last[[2]int{e.Change.Page, e.Change.Slot}] = e
		}
	}
	var entries []api.Entry
	for page := range 2 {
		for slot := range 2 {
			if e, ok := last[[2]int{page, slot}]; ok {
				entries = append(entries, e)
			}
		}
	}
	return entries
}

// change adds a change of a cell by a transaction.
func (w *writer) change(tx int) {
	values := []api.Cell{{}, set(""), set("a")}
	c := api.Change{Page: w.r.Intn(2), Slot: w.r.Intn(2), Before: values[w.r.Intn(3)], After: values[w.r.Intn(3)]}
	w.add(api.Entry{Kind: api.EntryChange, Tx: tx, Change: c})
}

// undo undoes a change of a transaction, if there is one.
func (w *writer) undo(tx int) bool {
	left := w.pending(tx)
	if len(left) == 0 {
		return false
	}
	e := left[w.r.Intn(len(left))]
	c := e.Change
	c.Before, c.After = c.After, c.Before
	w.add(api.Entry{Kind: api.EntryUndo, Tx: tx, Ref: e.LSN, Change: c})
	return true
}

// stop ends a transaction with its last entry.
func (w *writer) stop(kind, tx int) {
	w.add(api.Entry{Kind: kind, Tx: tx})
	w.running = slices.DeleteFunc(w.running, func(x int) bool { return x == tx })
}

// step adds an entry, or none.
func (w *writer) step() {
	if len(w.running) == 0 || w.r.Intn(8) == 0 {
		w.next++
		w.running = append(w.running, w.next)
		w.change(w.next)
		return
	}
	tx := w.running[w.r.Intn(len(w.running))]
	if w.aborted[tx] {
		if !w.undo(tx) {
			w.stop(api.EntryEnd, tx)
		}
		return
	}
	switch w.r.Intn(10) {
	case 0:
		w.add(note())
	case 1:
		w.add(indexed(w.r.Intn(2), w.r.Intn(journal.Last(w.l)+1)))
	case 2, 3:
		w.undo(tx)
	case 4:
		w.stop(api.EntryCommit, tx)
	case 5, 6:
		w.aborted[tx] = true
		w.add(abort(tx, 0))
	default:
		w.change(tx)
	}
}

// rightLog returns a right log.
func rightLog(r *rand.Rand, steps int) api.Log {
	w := writer{r: r, l: journal.New(), aborted: map[int]bool{}}
	for range steps {
		w.step()
	}
	return w.l
}

// TestCheckParts checks the chapter's consequences: each beginning of a right log is right, and each rest of it, and each part.
func TestCheckParts(t *testing.T) {
	r := rand.New(rand.NewSource(71))
	for range 60 {
		l := rightLog(r, 60)
		for first := 1; first <= len(l.Entries)+1; first++ {
			part := rest(l, first)
			if e := Check(part); e != api.OK || !plainRight(part) {
				t.Fatalf("rest from %d: %d of %+v", first, e, l)
			}
			part.Entries = part.Entries[:r.Intn(len(part.Entries)+1)]
			part.Durable = first - 1
			if e := Check(part); e != api.OK || !plainRight(part) {
				t.Fatalf("part from %d with %d entries: %d of %+v", first, len(part.Entries), e, l)
			}
		}
	}
}

// spoil changes something of a log.
func spoil(r *rand.Rand, l api.Log) api.Log {
	l.Entries = slices.Clone(l.Entries)
	i := r.Intn(len(l.Entries))
	e := &l.Entries[i]
	near := func(n int) int { return n + 1 - 2*r.Intn(2) }
	switch r.Intn(14) {
	case 0:
		e.PrevTx = near(e.PrevTx)
	case 1:
		e.PrevPage = near(e.PrevPage)
	case 2:
		e.Ref = near(e.Ref)
	case 3:
		e.Tx = near(e.Tx)
	case 4:
		e.Change.Page ^= 1
	case 5:
		e.Change.Slot ^= 1
	case 6:
		e.Change.Before = set("b")
	case 7:
		e.Change.After = set("b")
	case 8:
		e.PrevTx = r.Intn(e.LSN)
	case 9:
		e.PrevPage = r.Intn(e.LSN)
	case 10:
		e.Ref = r.Intn(e.LSN)
	case 11:
		*e = api.Entry{LSN: e.LSN, Kind: api.EntryCommit + r.Intn(3), Tx: e.Tx, PrevTx: e.PrevTx}
	case 12:
		*e = api.Entry{LSN: e.LSN, Kind: api.EntryNote}
	default:
		j := r.Intn(len(l.Entries))
		lsn := e.LSN
		*e = l.Entries[j]
		e.LSN = lsn
	}
	return l
}

// TestCheckSpoilt checks P7.5: right logs, and parts of them, in which something is changed, against the plain check.
func TestCheckSpoilt(t *testing.T) {
	r := rand.New(rand.NewSource(72))
	counts := map[api.Errno]int{}
	for range 400 {
		l := rightLog(r, 25)
		l = rest(l, 1+r.Intn(2)*r.Intn(len(l.Entries)))
		for range 60 {
			bad := spoil(r, l)
			for range r.Intn(2) {
				bad = spoil(r, bad)
			}
			want := api.ErrLog
			if journal.Valid(bad) {
				want = api.ErrChain
				if plainRight(bad) {
					want = api.OK
				}
			}
			if e := Check(bad); e != want {
				t.Fatalf("Check(%+v): %d, want %d", bad, e, want)
			}
			counts[want]++
		}
	}
	if counts[api.OK] < 2000 || counts[api.ErrChain] < 5000 || counts[api.ErrLog] < 2000 {
		t.Errorf("spoilt logs: %v", counts)
	}
}

// TestCheckRandom checks P7.5: logs whose chains lead anywhere, against the plain check.
func TestCheckRandom(t *testing.T) {
	r := rand.New(rand.NewSource(73))
	for range 2000 {
		l := randomLog(r)
		for n := range l.Entries {
			part := l
			part.Entries = l.Entries[:n]
			if right := Check(part) == api.OK; right != plainRight(part) {
				t.Fatalf("Check(%+v): %v", part, right)
			}
		}
	}
}
