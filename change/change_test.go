package change

import (
	"math"
	"slices"
	"strings"
	"testing"

	"pagemend/api"
)

// set returns a cell with data.
func set(data string) api.Cell { return api.Cell{Set: true, Data: data} }

// empty is a cell that is not set.
var empty = api.Cell{}

// cellCases are cells of all kinds, and whether they are valid.
func cellCases() []cellCase {
	return []cellCase{
		{"not set", empty, true},
		{"set without data", set(""), true},
		{"one byte", set("x"), true},
		{"bytes 0 and 255", set("\x00\xff"), true},
		{"longest", set(strings.Repeat("x", 12)), true},
		{"twelve bytes of four runes", set("\u65e5\u65e5\u65e5\u65e5"), true},
		{"too long", set(strings.Repeat("x", 13)), false},
		{"five runes of fifteen bytes", set("\u65e5\u65e5\u65e5\u65e5\u65e5"), false},
		{"much too long", set(strings.Repeat("x", 5000)), false},
		{"not set, one byte", api.Cell{Data: "x"}, false},
		{"not set, a byte 0", api.Cell{Data: "\x00"}, false},
		{"not set, longest", api.Cell{Data: strings.Repeat("x", 12)}, false},
		{"not set, too long", api.Cell{Data: strings.Repeat("x", 13)}, false},
	}
}

// cellCase is a cell, and whether it is valid.
type cellCase struct {
	name string
	c    api.Cell
	ok   bool
}

// badCells are the cells that are not valid.
func badCells() []api.Cell {
	var bad []api.Cell
	for _, c := range cellCases() {
		if !c.ok {
			bad = append(bad, c.c)
		}
	}
	return bad
}

// goodCells are the cells that are valid.
func goodCells() []api.Cell {
	var good []api.Cell
	for _, c := range cellCases() {
		if c.ok {
			good = append(good, c.c)
		}
	}
	return good
}

// badNumbers are numbers that are neither pages nor slots.
func badNumbers(limit int) []int {
	return []int{-1, limit, limit + 1, -limit, math.MinInt64, math.MaxInt64, 1 << 32, -1 << 32}
}

// badChanges are changes that are not valid for one reason each, made of a change that is.
func badChanges(c api.Change) []api.Change {
	var bad []api.Change
	for _, n := range badNumbers(64) {
		bad = append(bad, api.Change{Page: n, Slot: c.Slot, Before: c.Before, After: c.After})
	}
	for _, n := range badNumbers(16) {
		bad = append(bad, api.Change{Page: c.Page, Slot: n, Before: c.Before, After: c.After})
	}
	for _, cell := range badCells() {
		bad = append(bad,
			api.Change{Page: c.Page, Slot: c.Slot, Before: cell, After: c.After},
			api.Change{Page: c.Page, Slot: c.Slot, Before: c.Before, After: cell})
	}
	return bad
}

// sample returns a valid page with cells of all lengths, and one that is not set.
func sample(id, lsn int) api.Page {
	p := api.Page{ID: id, LSN: lsn}
	for i := range p.Cells {
		if i != 5 {
			p.Cells[i] = set("abcdefghijkl"[:i%13])
		}
	}
	return p
}

// with returns p with the cell c in a slot.
func with(p api.Page, slot int, c api.Cell) api.Page {
	p.Cells[slot] = c
	return p
}

// withID returns p as the page id.
func withID(p api.Page, id int) api.Page {
	p.ID = id
	return p
}

// TestValidCell checks P3.1: at most 12 bytes, and none if it is not set.
func TestValidCell(t *testing.T) {
	for _, c := range cellCases() {
		if got := ValidCell(c.c); got != c.ok {
			t.Errorf("%s: ValidCell = %v", c.name, got)
		}
	}
}

// TestValid checks P3.1: the bounds of Page and Slot, and any two valid cells, also equal ones.
func TestValid(t *testing.T) {
	for _, page := range []int{0, 1, 31, 63} {
		for slot := range 16 {
			if c := (api.Change{Page: page, Slot: slot, After: set("x")}); !Valid(c) {
				t.Errorf("Valid(%v) = false", c)
			}
		}
	}
	for _, before := range goodCells() {
		for _, after := range goodCells() {
			if c := (api.Change{Before: before, After: after}); !Valid(c) {
				t.Errorf("Valid(%v) = false", c)
			}
		}
	}
	for _, c := range badChanges(api.Change{Page: 3, Slot: 4, Before: set("a"), After: set("b")}) {
		if Valid(c) {
			t.Errorf("Valid(%v) = true", c)
		}
	}
}

// TestApply checks P3.2: in each slot the cell After, and nothing else is changed.
func TestApply(t *testing.T) {
	p := sample(3, 7)
	for slot, before := range p.Cells {
		for _, after := range goodCells() {
			got, e := Apply(p, api.Change{Page: 3, Slot: slot, Before: before, After: after})
			if want := with(p, slot, after); got != want || e != api.OK {
				t.Errorf("slot %d: Apply = %v, %d; want %v", slot, got, e, want)
			}
		}
	}
	if p != sample(3, 7) {
		t.Errorf("the argument has become %v", p)
	}
}

// TestApplyAnyPage checks P3.2 with pages that may not exist: Apply judges the change, and of the page its ID and the cell alone.
func TestApplyAnyPage(t *testing.T) {
	for _, lsn := range []int{0, -1, api.MaxLSN, api.MaxLSN + 1, math.MinInt64, math.MaxInt64} {
		p := with(api.Page{LSN: lsn}, 1, badCells()[0])
		got, e := Apply(p, api.Change{Slot: 2, After: set("x")})
		if want := with(p, 2, set("x")); got != want || e != api.OK {
			t.Errorf("LSN %d: Apply = %v, %d; want %v", lsn, got, e, want)
		}
	}
}

// applyCase is a change of a page, and the error of Apply.
type applyCase struct {
	name string
	p    api.Page
	c    api.Change
	e    api.Errno
}

// applyCases are applications that fail, each error also together with all later ones.
func applyCases() []applyCase {
	p := sample(3, 7) // "ab" in slot 2, "" in slot 0, slot 5 not set
	good := api.Change{Page: 3, Slot: 2, Before: set("ab"), After: set("x")}
	other := good
	other.Page = 4
	wrong := good
	wrong.Before = set("ac")
	cases := []applyCase{
		{"another page", p, other, api.ErrIdentity},
		{"another page, that may not exist", withID(p, 67), good, api.ErrIdentity},
		{"a page -1", withID(p, -1), good, api.ErrIdentity},
		{"a page far away", withID(p, math.MaxInt64), good, api.ErrIdentity},
		{"another page and another cell", withID(p, 4), wrong, api.ErrIdentity},
		{"other data", p, wrong, api.ErrBefore},
		{"longer data", p, api.Change{Page: 3, Slot: 2, Before: set("abc"), After: set("x")}, api.ErrBefore},
		{"cell After already", with(p, 2, set("x")), good, api.ErrBefore},
		{"cell not set", p, api.Change{Page: 3, Slot: 5, Before: set("ab")}, api.ErrBefore},
		{"cell not set, before without data", p, api.Change{Page: 3, Slot: 5, Before: set("")}, api.ErrBefore},
		{"cell without data, before not set", p, api.Change{Page: 3, Slot: 0, After: set("x")}, api.ErrBefore},
		{"cell set, before not set", p, api.Change{Page: 3, Slot: 2}, api.ErrBefore},
		{"nothing would change", p, api.Change{Page: 3, Slot: 2, Before: set("x"), After: set("x")}, api.ErrBefore},
		{"cell that may not exist", with(p, 5, api.Cell{Data: "x"}), api.Change{Page: 3, Slot: 5}, api.ErrBefore},
	}
	for _, c := range badChanges(good) {
		cases = append(cases, applyCase{"not valid", p, c, api.ErrData}, applyCase{"not valid, another page", withID(p, 9), c, api.ErrData},
			applyCase{"not valid, the page of the change", withID(p, c.Page), c, api.ErrData})
	}
	for _, cell := range badCells() {
		c := api.Change{Page: 3, Slot: 2, Before: cell}
		cases = append(cases, applyCase{"cell as before, not valid", with(p, 2, cell), c, api.ErrData})
	}
	return cases
}

// TestApplyErrors checks P3.2: the errors, their order, and the zero page.
func TestApplyErrors(t *testing.T) {
	for _, c := range applyCases() {
		if got, e := Apply(c.p, c.c); e != c.e || got != (api.Page{}) {
			t.Errorf("%s: Apply(%v, %v) = %v, %d; want %d", c.name, c.p, c.c, got, e, c.e)
		}
	}
}

// TestInverse checks P3.3 and example 1: Before and After are exchanged, whatever else the change says.
func TestInverse(t *testing.T) {
	fill := api.Change{Page: 3, Slot: 4, After: set("x")}
	if got := Inverse(fill); got != (api.Change{Page: 3, Slot: 4, Before: set("x")}) {
		t.Errorf("Inverse(%v) = %v", fill, got)
	}
	for _, c := range append(badChanges(api.Change{Page: 3, Slot: 4, Before: set("a"), After: set("b")}), api.Change{}) {
		want := api.Change{Page: c.Page, Slot: c.Slot, Before: c.After, After: c.Before}
		if got := Inverse(c); got != want {
			t.Errorf("Inverse(%v) = %v", c, got)
		}
	}
}

// TestInverseUndoes checks the consequence: a change and its inverse change nothing.
func TestInverseUndoes(t *testing.T) {
	p := sample(63, 7)
	for slot, before := range p.Cells {
		for _, after := range goodCells() {
			c := api.Change{Page: 63, Slot: slot, Before: before, After: after}
			q, e := Apply(p, c)
			r, f := Apply(q, Inverse(c))
			if e != api.OK || f != api.OK || r != p {
				t.Errorf("%v: %v, %d, %d", c, r, e, f)
			}
		}
	}
}

// TestJoin checks P3.3 and its consequence: Join is one change, and does what both do.
func TestJoin(t *testing.T) {
	for _, x := range goodCells() {
		for _, y := range goodCells() {
			for _, z := range goodCells() {
				a := api.Change{Page: 63, Slot: 15, Before: x, After: y}
				b := api.Change{Page: 63, Slot: 15, Before: y, After: z}
				joined, e := Join(a, b)
				if want := (api.Change{Page: 63, Slot: 15, Before: x, After: z}); joined != want || e != api.OK {
					t.Fatalf("Join(%v, %v) = %v, %d", a, b, joined, e)
				}
				p := with(sample(63, 7), 15, x)
				one, _ := Apply(p, a)
				two, _ := Apply(one, b)
				if got, e := Apply(p, joined); got != two || e != api.OK {
					t.Fatalf("Apply(%v) = %v, %d; want %v", joined, got, e, two)
				}
			}
		}
	}
}

// TestJoinErrors checks P3.3: the errors, their order, and the zero change.
func TestJoinErrors(t *testing.T) {
	a := api.Change{Page: 3, Slot: 4, Before: set("a"), After: set("b")}
	b := api.Change{Page: 3, Slot: 4, Before: set("b"), After: set("c")}
	check := func(a, b api.Change, want api.Errno) {
		t.Helper()
		if got, e := Join(a, b); e != want || got != (api.Change{}) {
			t.Errorf("Join(%v, %v) = %v, %d; want %d", a, b, got, e, want)
		}
	}
	for _, bad := range badChanges(a) {
		check(bad, b, api.ErrData)
		check(bad, bad, api.ErrData)
		check(bad, Inverse(bad), api.ErrData)
		check(bad, api.Change{Page: 5, Before: set("q")}, api.ErrData)
	}
	for _, bad := range badChanges(b) {
		check(a, bad, api.ErrData)
		check(api.Change{Page: 5, Before: set("q")}, bad, api.ErrData)
	}
	check(a, api.Change{Page: 4, Slot: 4, Before: set("b")}, api.ErrIdentity)
	check(a, api.Change{Page: 3, Slot: 3, Before: set("b")}, api.ErrIdentity)
	check(a, api.Change{Page: 4, Slot: 3, Before: set("b")}, api.ErrIdentity)
	check(a, api.Change{Page: 4, Slot: 4, Before: set("q")}, api.ErrIdentity)
	check(a, api.Change{Page: 3, Slot: 3, Before: set("q")}, api.ErrIdentity)
	check(a, api.Change{Page: 3, Slot: 4, Before: set("q")}, api.ErrBefore)
	check(a, api.Change{Page: 3, Slot: 4, Before: set(""), After: set("c")}, api.ErrBefore)
	check(a, api.Change{Page: 3, Slot: 4}, api.ErrBefore)
	check(a, a, api.ErrBefore)
	check(b, a, api.ErrBefore)
	check(api.Change{}, api.Change{Before: set("")}, api.ErrBefore)
	check(api.Change{After: set("")}, api.Change{}, api.ErrBefore)
}

// applyAll applies the changes in their order, which must be possible.
func applyAll(t *testing.T, p api.Page, changes []api.Change) api.Page {
	t.Helper()
	for _, c := range changes {
		q, e := Apply(p, c)
		if e != api.OK {
			t.Fatalf("Apply(%v, %v) = %d", p, c, e)
		}
		p = q
	}
	return p
}

// TestDiff checks P3.4: a change for each cell that differs, ascending, from the cell of a to that of b.
func TestDiff(t *testing.T) {
	a := sample(63, 7)
	b := with(with(with(with(a, 15, empty), 0, empty), 5, set("")), 9, set("new"))
	got, e := Diff(a, b)
	want := []api.Change{
		{Page: 63, Slot: 0, Before: set(""), After: empty},
		{Page: 63, Slot: 5, Before: empty, After: set("")},
		{Page: 63, Slot: 9, Before: set("abcdefghi"), After: set("new")},
		{Page: 63, Slot: 15, Before: set("ab"), After: empty},
	}
	if !slices.Equal(got, want) || e != api.OK {
		t.Errorf("Diff = %v, %d; want %v", got, e, want)
	}
}

// TestDiffEqual checks P3.4: equal cells need no change, whatever the LSNs are, of each page that may exist.
func TestDiffEqual(t *testing.T) {
	for id := range 64 {
		a, b := sample(id, 7), sample(id, 9)
		for _, lsn := range []int{7, 9, 0, -1, math.MinInt64, math.MaxInt64} {
			b.LSN = lsn
			if got, e := Diff(a, b); len(got) != 0 || e != api.OK {
				t.Errorf("Diff(%v, %v) = %v, %d", a, b, got, e)
			}
		}
	}
}

// TestDiffAllSets checks P3.4 and its consequence with every set of slots that differ: as many changes, and in both orders they lead to the cells of b.
func TestDiffAllSets(t *testing.T) {
	a := sample(0, 7)
	for mask := range 1 << 16 {
		b := api.Page{LSN: 8, Cells: a.Cells}
		var slots []int
		for slot := range b.Cells {
			if mask>>slot&1 == 1 {
				b.Cells[slot] = set("q")
				slots = append(slots, slot)
			}
		}
		changes, e := Diff(a, b)
		var have []int
		for _, c := range changes {
			have = append(have, c.Slot)
		}
		if e != api.OK || !slices.Equal(have, slots) {
			t.Fatalf("Diff(%v, %v) = %v, %d", a, b, changes, e)
		}
		forward := applyAll(t, a, changes)
		slices.Reverse(changes)
		backward := applyAll(t, a, changes)
		if forward.Cells != b.Cells || backward.Cells != b.Cells || forward.LSN != 7 {
			t.Fatalf("%v: %v and %v", changes, forward, backward)
		}
	}
}

// TestDiffErrors checks P3.4: the errors, their order, and no changes.
func TestDiffErrors(t *testing.T) {
	p := sample(3, 7)
	check := func(a, b api.Page, want api.Errno) {
		t.Helper()
		if got, e := Diff(a, b); e != want || len(got) != 0 {
			t.Errorf("Diff(%v, %v) = %v, %d; want %d", a, b, got, e, want)
		}
	}
	for _, id := range badNumbers(64) {
		check(withID(p, id), withID(p, id), api.ErrRange)
		check(withID(p, id), withID(with(p, 1, empty), id), api.ErrRange)
		check(withID(p, id), p, api.ErrIdentity)
		check(p, withID(p, id), api.ErrIdentity)
		for _, cell := range badCells() {
			bad := with(withID(p, id), 15, cell)
			check(bad, bad, api.ErrRange)
			check(bad, p, api.ErrIdentity)
			check(p, bad, api.ErrIdentity)
		}
	}
	check(p, sample(4, 7), api.ErrIdentity)
	for slot := range 16 {
		for _, cell := range badCells() {
			bad := with(p, slot, cell)
			check(bad, p, api.ErrData)
			check(p, bad, api.ErrData)
			check(bad, bad, api.ErrData) // also if nothing would have to be changed
		}
	}
}

// FuzzChange checks the consequences of chapter 3 with any two cells and any numbers.
func FuzzChange(f *testing.F) {
	f.Add(3, 4, true, "a", true, "b")
	f.Add(-1, 16, false, "a", false, "")
	f.Fuzz(func(t *testing.T, page, slot int, beforeSet bool, before string, afterSet bool, after string) {
		c := api.Change{Page: page, Slot: slot, Before: api.Cell{Set: beforeSet, Data: before}, After: api.Cell{Set: afterSet, Data: after}}
		if Inverse(Inverse(c)) != c || Valid(Inverse(c)) != Valid(c) {
			t.Fatalf("Inverse(%v) = %v", c, Inverse(c))
		}
		joined, e := Join(c, Inverse(c))
		if Valid(c) != (e == api.OK) {
			t.Fatalf("Join(%v) = %v, %d", c, joined, e)
		}
		if !Valid(c) {
			return
		}
		p := with(sample(page, 7), slot, c.Before)
		q := applyAll(t, p, []api.Change{c})
		changes, e := Diff(p, q)
		if e != api.OK || applyAll(t, p, changes) != q || applyAll(t, q, []api.Change{Inverse(c)}) != p {
			t.Fatalf("Diff(%v, %v) = %v, %d", p, q, changes, e)
		}
	})
}
