package entry

import (
	"math"
	"strings"
	"testing"

	"pagemend/api"
)

// set returns a cell with data.
func set(data string) api.Cell { return api.Cell{Set: true, Data: data} }

// hello is a change of a cell that was empty.
var hello = api.Change{Page: 3, Slot: 2, After: set("hello")}

// Blobs at their bound and beyond it.
var (
	longest = strings.Repeat("b", 8192)
	tooLong = strings.Repeat("b", 8193)
)

// samples are an entry of each kind, with room for changes of each of its numbers.
func samples() []api.Entry {
	return []api.Entry{
		{LSN: 9, Kind: api.EntryChange, Tx: 2, PrevTx: 8, PrevPage: 7, Change: hello},
		{LSN: 9, Kind: api.EntryUndo, Tx: 2, PrevTx: 8, PrevPage: 7, Ref: 6, Change: hello},
		{LSN: 9, Kind: api.EntryCommit, Tx: 2, PrevTx: 8},
		{LSN: 9, Kind: api.EntryAbort, Tx: 2, PrevTx: 8},
		{LSN: 9, Kind: api.EntryEnd, Tx: 2, PrevTx: 8},
		{LSN: 9, Kind: api.EntryCheckpoint, Blob: "all is well"},
		{LSN: 9, Kind: api.EntryIndex, Ref: 8, Change: api.Change{Page: 3}},
		{LSN: 9, Kind: api.EntryNote, Blob: "all is well"},
	}
}

// Which kinds use which fields.
func hasTx(e api.Entry) bool     { return e.Kind <= api.EntryEnd }
func hasChange(e api.Entry) bool { return e.Kind <= api.EntryUndo }
func hasBlob(e api.Entry) bool {
	return e.Kind == api.EntryCheckpoint || e.Kind == api.EntryNote
}

// with returns e after a change of it.
func with(e api.Entry, change func(*api.Entry)) api.Entry {
	change(&e)
	return e
}

// goodEntries are valid entries: the samples, and each field at its bounds.
func goodEntries() []api.Entry {
	var good []api.Entry
	for _, e := range samples() {
		add := func(change func(*api.Entry)) { good = append(good, with(e, change)) }
		add(func(*api.Entry) {})
		add(func(e *api.Entry) { e.LSN = api.MaxLSN })
		if hasTx(e) {
			add(func(e *api.Entry) { e.Tx = 1 })
			add(func(e *api.Entry) { e.Tx = api.MaxTx })
			add(func(e *api.Entry) { e.LSN, e.PrevTx = api.MaxLSN, api.MaxLSN-1 })
		}
		if hasChange(e) {
			add(func(e *api.Entry) { e.PrevPage = 0 })
			add(func(e *api.Entry) { e.PrevPage = 8 })
			add(func(e *api.Entry) { e.LSN, e.PrevPage = api.MaxLSN, api.MaxLSN-1 })
			good = append(good, withChanges(e, goodChanges())...)
		}
		if hasBlob(e) {
			add(func(e *api.Entry) { e.LSN, e.Blob = 1, "" })
			add(func(e *api.Entry) { e.Blob = "\x00" })
			add(func(e *api.Entry) { e.Blob = longest })
		}
	}
	return append(good,
		api.Entry{LSN: 1, Kind: api.EntryChange, Tx: 1, Change: api.Change{}},
		api.Entry{LSN: 2, Kind: api.EntryUndo, Tx: 1, PrevTx: 1, Ref: 1},
		api.Entry{LSN: 9, Kind: api.EntryUndo, Tx: 1, PrevTx: 8, Ref: 8},
		api.Entry{LSN: 9, Kind: api.EntryUndo, Tx: 1, PrevTx: 8, Ref: 1},
		api.Entry{LSN: api.MaxLSN, Kind: api.EntryUndo, Tx: api.MaxTx, PrevTx: api.MaxLSN - 1, PrevPage: api.MaxLSN - 1, Ref: api.MaxLSN - 1},
		api.Entry{LSN: 2, Kind: api.EntryCommit, Tx: 1, PrevTx: 1},
		api.Entry{LSN: 1, Kind: api.EntryIndex},
		api.Entry{LSN: 2, Kind: api.EntryIndex, Ref: 1},
		api.Entry{LSN: api.MaxLSN, Kind: api.EntryIndex, Ref: api.MaxLSN - 1, Change: api.Change{Page: 63}},
	)
}

// withChanges returns e with each of these changes.
func withChanges(e api.Entry, changes []api.Change) []api.Entry {
	var all []api.Entry
	for _, c := range changes {
		all = append(all, with(e, func(e *api.Entry) { e.Change = c }))
	}
	return all
}

// goodChanges are changes with each field at its bounds.
func goodChanges() []api.Change {
	return []api.Change{
		{},
		{Page: 63, Slot: 15},
		{Before: set(""), After: set("abcdefghijkl")},
		{Before: set("abcdefghijkl"), After: set("")},
		{Before: set("\x00\xff\x80"), After: set("\xff")},
		{Before: set("x"), After: set("x")},
	}
}

// badChanges are changes that are not valid, for one reason each.
func badChanges() []api.Change {
	bad := []api.Change{
		{Before: api.Cell{Data: "x"}},
		{After: api.Cell{Data: "x"}},
		{Before: set("abcdefghijklm")},
		{After: set("abcdefghijklm")},
		{After: set(strings.Repeat("x", 255))},
	}
	for _, n := range []int{-1, 64, 1 << 32, math.MinInt64, math.MaxInt64} {
		bad = append(bad, api.Change{Page: n})
	}
	for _, n := range []int{-1, 16, 1 << 8, math.MinInt64, math.MaxInt64} {
		bad = append(bad, api.Change{Slot: n})
	}
	return bad
}

// badEntries are entries that are not valid, for one reason each.
func badEntries() []api.Entry {
	bad := []api.Entry{{}}
	for _, e := range samples() {
		bad = append(bad, badNumbers(e)...)
		bad = append(bad, badKinds(e)...)
		bad = append(bad, badFields(e)...)
		bad = append(bad, with(e, func(e *api.Entry) { e.Blob = tooLong }))
	}
	for _, e := range samples()[1:5] {
		bad = append(bad, with(e, func(e *api.Entry) { e.PrevTx, e.Ref = 0, 0 }))
	}
	for _, ref := range []int{0, 6, 7, 8} {
		bad = append(bad, with(samples()[1], func(e *api.Entry) { e.PrevTx, e.Ref = 5, ref }))
	}
	return bad
}

// badNumbers returns e with each number, one after the other, beyond its bounds.
func badNumbers(e api.Entry) []api.Entry {
	var bad []api.Entry
	add := func(change func(*api.Entry)) { bad = append(bad, with(e, change)) }
	for _, n := range []int{0, -1, api.MaxLSN + 1, math.MinInt64, math.MaxInt64} {
		add(func(e *api.Entry) { e.LSN = n })
	}
	for _, n := range []int{-1, api.MaxTx + 1, 1<<32 + 1, math.MinInt64, math.MaxInt64} {
		add(func(e *api.Entry) { e.Tx = n })
	}
	for _, n := range []int{-1, 9, 10, api.MaxLSN, math.MinInt64, math.MaxInt64} {
		add(func(e *api.Entry) { e.PrevTx = n })
		add(func(e *api.Entry) { e.PrevPage = n })
		add(func(e *api.Entry) { e.Ref = n })
	}
	return bad
}

// badKinds returns e with each kind that does not exist.
func badKinds(e api.Entry) []api.Entry {
	var bad []api.Entry
	for _, kind := range []int{0, -1, 9, 255, 256 + e.Kind, math.MinInt64, math.MaxInt64} {
		bad = append(bad, with(e, func(e *api.Entry) { e.Kind = kind }))
	}
	return bad
}

// badFields returns e with each field set that its kind does not use, and not set or not valid if its kind needs it.
func badFields(e api.Entry) []api.Entry {
	var bad []api.Entry
	add := func(change func(*api.Entry)) { bad = append(bad, with(e, change)) }
	if hasTx(e) {
		add(func(e *api.Entry) { e.Tx = 0 })
	} else {
		add(func(e *api.Entry) { e.Tx = 1 })
		add(func(e *api.Entry) { e.PrevTx = 1 })
	}
	if e.Kind != api.EntryUndo && e.Kind != api.EntryIndex {
		add(func(e *api.Entry) { e.Ref = 1 })
	}
	if hasChange(e) {
		bad = append(bad, withChanges(e, badChanges())...)
	} else {
		add(func(e *api.Entry) { e.PrevPage = 1 })
		add(func(e *api.Entry) { e.Change.Slot = 1 })
		add(func(e *api.Entry) { e.Change.Before = set("") })
		add(func(e *api.Entry) { e.Change.After = set("") })
		bad = append(bad, withChanges(e, badChanges())...)
	}
	if !hasChange(e) && e.Kind != api.EntryIndex {
		add(func(e *api.Entry) { e.Change.Page = 1 })
	}
	if !hasBlob(e) {
		add(func(e *api.Entry) { e.Blob = "x" })
	}
	return bad
}

// TestChanges checks P5.1: Changes looks at the kind alone.
func TestChanges(t *testing.T) {
	for kind := -1; kind <= 10; kind++ {
		want := kind == 1 || kind == 2
		for _, e := range samples() {
			e.Kind = kind
			if Changes(e) != want {
				t.Errorf("Changes of the kind %d: %v", kind, !want)
			}
		}
		if Changes(api.Entry{Kind: kind}) != want {
			t.Errorf("Changes of the kind %d alone: %v", kind, !want)
		}
	}
	for _, kind := range []int{math.MinInt64, math.MaxInt64, 257, 258, 1<<32 + 1} {
		if Changes(api.Entry{Kind: kind}) {
			t.Errorf("Changes of the kind %d", kind)
		}
	}
}

// TestValid checks P5.1: entries of each kind, with each field at its bounds, are valid.
func TestValid(t *testing.T) {
	for _, e := range goodEntries() {
		if !Valid(e) {
			t.Errorf("not valid: %+.60v", e)
		}
	}
}

// TestValidNot checks P5.1: each rule of a valid entry.
func TestValidNot(t *testing.T) {
	for _, e := range badEntries() {
		if Valid(e) {
			t.Errorf("valid: %+.60v", e)
		}
	}
}

// TestValidTable checks P5.1: the table of the chapter, with each set of fields for each kind.
func TestValidTable(t *testing.T) {
	for kind := 1; kind <= 8; kind++ {
		for set := range 64 {
			e := api.Entry{LSN: 9, Kind: kind}
			if set&1 != 0 {
				e.Tx = 1
			}
			if set&2 != 0 {
				e.PrevTx = 2
			}
			if set&4 != 0 {
				e.PrevPage = 3
			}
			if set&8 != 0 {
				e.Ref = 2
			}
			if set&16 != 0 {
				e.Change = hello
			}
			if set&32 != 0 {
				e.Blob = "x"
			}
			if got := Valid(e); got != tableSays(e) {
				t.Errorf("valid %v: %+v", got, e)
			}
		}
	}
}

// tableSays reports what the chapter's table says of an entry whose fields are 0 or within their bounds.
func tableSays(e api.Entry) bool {
	tx, prevTx, prevPage, ref := e.Tx != 0, e.PrevTx != 0, e.PrevPage != 0, e.Ref != 0
	changed, blob := e.Change != api.Change{}, e.Blob != ""
	switch e.Kind {
	case 1:
		return tx && !ref && !blob
	case 2:
		return tx && prevTx && ref && !blob
	case 3, 4, 5:
		return tx && prevTx && !prevPage && !ref && !changed && !blob
	case 6, 8:
		return !tx && !prevTx && !prevPage && !ref && !changed
	}
	return !tx && !prevTx && !prevPage && !changed && !blob
}
