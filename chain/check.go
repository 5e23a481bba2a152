package chain

import (
	"pagemend/api"
	"pagemend/entry"
	"pagemend/journal"
)

// Check returns api.OK if a log is right.
func Check(l api.Log) api.Errno {
	if !journal.Valid(l) {
		return api.ErrLog
	}
	p := past{log: l, txs: map[int]progress{}, pending: map[place][]int{}, undone: map[int]bool{}}
	for _, e := range l.Entries {
		if e.Tx == 0 { // such an entry has no chain, and changes no page
			continue
		}
		if !p.allows(e) {
			return api.ErrChain
		}
		p.note(e)
	}
	return api.OK
}

// past is what a valid log says up to a place in it, if all of its entries before are right.
type past struct {
	log     api.Log
	heads   [api.MaxPages]int // the last entry of each page; 0: none
	txs     map[int]progress
	pending map[place][]int // the changes in the log that are not undone, ascending
	undone  map[int]bool    // what is undone, also before First
}

// progress is how far a transaction has come.
type progress struct {
	last    int  // its last entry in the log; 0: none
	older   bool // it has an entry before First
	aborted bool // it has an EntryAbort in the log
	ended   bool
	pending int // how many of its changes in the log are not undone
}

// place is where a transaction changes something: its changes of the same cell are undone from the last one on.
type place struct{ tx, page, slot int }

// placeOf returns the place of an entry that changes a page.
func placeOf(e api.Entry) place { return place{tx: e.Tx, page: e.Change.Page, slot: e.Change.Slot} }

// progressAt returns how far the transaction of e has come when e is the next entry; its first entry in the log tells whether there are older ones.
func (p *past) progressAt(e api.Entry) progress {
	t := p.txs[e.Tx]
	if t.last == 0 {
		t.older = e.PrevTx > 0
	}
	return t
}

// allows reports whether an entry of a transaction is right as the next one.
func (p *past) allows(e api.Entry) bool {
	t := p.progressAt(e)
	if t.ended || !p.follows(e.PrevTx, t.last) || entry.Changes(e) && !p.follows(e.PrevPage, p.heads[e.Change.Page]) {
		return false
	}
	switch e.Kind {
	case api.EntryUndo:
		return p.allowsUndo(e)
	case api.EntryEnd: // before First there may be an EntryAbort
		return (t.aborted || t.older) && t.pending == 0
	}
	return !t.aborted
}

// follows reports whether an entry may name prev as the one before it in a chain whose last entry in the log is last. What was before First is not known.
func (p *past) follows(prev, last int) bool {
	if last == 0 {
		return prev < p.log.First
	}
	return prev == last
}

// allowsUndo reports whether an EntryUndo undoes what is undone next of its place.
func (p *past) allowsUndo(e api.Entry) bool {
	ref, known := find(p.log, e.Ref)
	return (!known || inverts(e, ref)) && !p.undone[e.Ref] && lastOf(p.pending[placeOf(e)]) <= e.Ref
}

// inverts reports whether an EntryUndo takes back what ref has done, as a change of the same transaction.
func inverts(e, ref api.Entry) bool {
	c := ref.Change
	c.Before, c.After = c.After, c.Before
	return ref.Kind == api.EntryChange && ref.Tx == e.Tx && c == e.Change
}

// lastOf returns the last number of a list; 0 if there is none.
func lastOf(numbers []int) int {
	if len(numbers) == 0 {
		return 0
	}
	return numbers[len(numbers)-1]
}

// note takes a right entry of a transaction into account.
func (p *past) note(e api.Entry) {
	t := p.progressAt(e)
	t.last = e.LSN
	switch e.Kind {
	case api.EntryChange:
		t.pending++
		p.pending[placeOf(e)] = append(p.pending[placeOf(e)], e.LSN)
	case api.EntryUndo:
		p.undone[e.Ref] = true
		if e.Ref >= p.log.First { // then it is the last one of its place
			t.pending--
			left := p.pending[placeOf(e)]
			p.pending[placeOf(e)] = left[:len(left)-1]
		}
	case api.EntryAbort:
		t.aborted = true
	case api.EntryCommit, api.EntryEnd:
		t.ended = true
	}
	p.txs[e.Tx] = t
	if entry.Changes(e) {
		p.heads[e.Change.Page] = e.LSN
	}
}
