package device

import (
	"fmt"
	"math"
	"slices"
	"strings"
	"testing"

	"pagemend/api"
)

// text returns the bytes of a page that are not all alike, different for each seed.
func text(seed int) string {
	b := make([]byte, 256)
	for i := range b {
		b[i] = byte(i*7 + seed*31 + 1)
	}
	return string(b)
}

// blank are the bytes of a page that was never written.
var blank = strings.Repeat("\x00", 256)

// sample returns a device with four pages that were written, the last of them unreadable, behind five writes.
func sample(faults ...api.Fault) api.Device {
	return api.Device{Pages: []string{text(0), text(1), text(2), text(3)}, Writes: 5, Unreadable: []int{3}, Faults: faults}
}

// goodFaults are faults of all kinds with their bounds, which are valid for sample.
func goodFaults() []api.Fault {
	return []api.Fault{
		{Kind: api.FaultLost, At: 6},
		{Kind: api.FaultLost, At: api.MaxLSN},
		{Kind: api.FaultMisdirect, At: 6},
		{Kind: api.FaultMisdirect, At: 7, Target: 3},
		{Kind: api.FaultTear, At: 6},
		{Kind: api.FaultTear, At: 6, Byte: 255},
		{Kind: api.FaultRot, At: 6, Mask: 1},
		{Kind: api.FaultRot, At: 100, Page: 3, Byte: 255, Mask: 255},
		{Kind: api.FaultUnreadable, At: 6},
		{Kind: api.FaultUnreadable, At: 6, Page: 3},
		{Kind: api.FaultDead, At: 6},
		{Kind: api.FaultDead, At: api.MaxLSN},
	}
}

// badFaults are faults that are not valid for sample, for one reason each.
func badFaults() []api.Fault {
	bad := []api.Fault{
		{},
		{Kind: api.FaultRot, At: 6},
		{Kind: api.FaultRot, At: 6, Page: 1, Byte: 1},
	}
	for _, kind := range []int{0, -1, 7, 8, math.MinInt64, math.MaxInt64} {
		bad = append(bad, api.Fault{Kind: kind, At: 6}, api.Fault{Kind: kind, At: 6, Mask: 1})
	}
	for _, f := range goodFaults() {
		bad = append(bad, badFields(f)...)
	}
	return bad
}

// badFields returns f with each field, one after the other, beyond its bounds or set though it is not used.
func badFields(f api.Fault) []api.Fault {
	var bad []api.Fault
	add := func(change func(*api.Fault)) {
		g := f
		change(&g)
		bad = append(bad, g)
	}
	for _, at := range []int{5, 4, 0, -1, api.MaxLSN + 1, math.MinInt64, math.MaxInt64} {
		add(func(g *api.Fault) { g.At = at })
	}
	for _, page := range []int{-1, 4, 64, math.MinInt64, math.MaxInt64} {
		add(func(g *api.Fault) { g.Page = page })
		add(func(g *api.Fault) { g.Target = page })
	}
	for _, at := range []int{-1, 256, math.MinInt64, math.MaxInt64} {
		add(func(g *api.Fault) { g.Byte = at })
	}
	if f.Kind != api.FaultRot && f.Kind != api.FaultUnreadable {
		add(func(g *api.Fault) { g.Page = 1 })
	}
	if f.Kind != api.FaultMisdirect {
		add(func(g *api.Fault) { g.Target = 1 })
	}
	if f.Kind != api.FaultTear && f.Kind != api.FaultRot {
		add(func(g *api.Fault) { g.Byte = 1 })
	}
	if f.Kind != api.FaultRot {
		add(func(g *api.Fault) { g.Mask = 1 })
	}
	return bad
}

// badDevices are devices that are not valid, for one reason each.
func badDevices() []api.Device {
	var bad []api.Device
	add := func(change func(*api.Device)) {
		d := sample()
		change(&d)
		bad = append(bad, d)
	}
	add(func(d *api.Device) { *d = api.Device{} })
	add(func(d *api.Device) { d.Pages, d.Unreadable = nil, nil })
	add(func(d *api.Device) { d.Pages = slices.Repeat([]string{blank}, 65) })
	for _, i := range []int{0, 3} {
		for _, size := range []int{0, 1, 255} {
			add(func(d *api.Device) { d.Pages[i] = d.Pages[i][:size] })
		}
		add(func(d *api.Device) { d.Pages[i] += "x" })
	}
	for _, writes := range []int{-1, api.MaxLSN + 1, math.MinInt64, math.MaxInt64} {
		add(func(d *api.Device) { d.Writes = writes })
	}
	for _, unreadable := range [][]int{{-1}, {4}, {-1, 0}, {0, 4}, {1, 1}, {2, 1}, {0, 2, 1}, {0, 1, 2, 3, 3}, {math.MinInt64}, {math.MaxInt64}} {
		add(func(d *api.Device) { d.Unreadable = unreadable })
	}
	for _, f := range badFaults() {
		add(func(d *api.Device) { d.Faults = []api.Fault{f} })
		add(func(d *api.Device) { d.Faults = []api.Fault{{Kind: api.FaultDead, At: 9}, f} })
	}
	add(func(d *api.Device) { d.Faults = slices.Repeat([]api.Fault{{Kind: api.FaultDead, At: 9}}, 65) })
	add(func(d *api.Device) {
		d.Writes, d.Faults = api.MaxLSN, []api.Fault{{Kind: api.FaultDead, At: api.MaxLSN}}
	})
	return bad
}

// same reports whether two devices are equal; lists without elements are.
func same(a, b api.Device) bool {
	return slices.Equal(a.Pages, b.Pages) && a.Writes == b.Writes && slices.Equal(a.Unreadable, b.Unreadable) &&
		a.Dead == b.Dead && slices.Equal(a.Faults, b.Faults)
}

// check checks a device and an error.
func check(t *testing.T, name string, d api.Device, e api.Errno, want api.Device, wantError api.Errno) {
	t.Helper()
	if e != wantError {
		t.Errorf("%s: error %d, want %d", name, e, wantError)
	}
	if !same(d, want) {
		t.Errorf("%s: device %s, want %s", name, show(d), show(want))
	}
}

// show returns a device as text, with a few bytes of each page.
func show(d api.Device) string {
	return fmt.Sprintf("{%.6x %d %d %v %v}", d.Pages, d.Writes, d.Unreadable, d.Dead, d.Faults)
}

// TestNew checks P4.1: New with each number of pages, and its error.
func TestNew(t *testing.T) {
	for n := 1; n <= 64; n++ {
		d, e := New(n)
		check(t, "New", d, e, api.Device{Pages: slices.Repeat([]string{blank}, n)}, api.OK)
		if !Valid(d) {
			t.Errorf("New(%d) is not valid", n)
		}
		for page := range n {
			if s, e := Read(d, page); s != blank || e != api.OK {
				t.Errorf("page %d of New(%d): %q, %d", page, n, s, e)
			}
		}
	}
	for _, n := range []int{0, -1, 65, 66, math.MinInt64, math.MaxInt64, 1 << 32} {
		d, e := New(n)
		check(t, "New beyond the bounds", d, e, api.Device{}, api.ErrRange)
	}
}

// TestValid checks P4.1: devices at their bounds are valid.
func TestValid(t *testing.T) {
	many := slices.Repeat([]string{blank}, 64)
	all := make([]int, 64)
	for i := range all {
		all[i] = i
	}
	for i, d := range []api.Device{
		{Pages: many[:1]},
		{Pages: many},
		{Pages: many, Unreadable: all},
		{Pages: many, Unreadable: []int{0, 63}, Dead: true},
		{Pages: many, Writes: api.MaxLSN},
		{Pages: many, Writes: api.MaxLSN - 1, Faults: []api.Fault{{Kind: api.FaultDead, At: api.MaxLSN}}},
		{Pages: many, Faults: []api.Fault{{Kind: api.FaultUnreadable, At: 1, Page: 63}, {Kind: api.FaultMisdirect, At: 1, Target: 63}}},
		{Pages: many[:1], Faults: slices.Repeat([]api.Fault{{Kind: api.FaultLost, At: 1}}, 64)},
		sample(),
		sample(goodFaults()...),
	} {
		if !Valid(d) {
			t.Errorf("device %d is not valid: %s", i, show(d))
		}
	}
}

// TestValidNot checks P4.1: each rule of a valid device.
func TestValidNot(t *testing.T) {
	for i, d := range badDevices() {
		if Valid(d) {
			t.Errorf("device %d is valid: %s", i, show(d))
		}
	}
}

// TestInject checks P4.2: a fault comes behind the others, whatever its At and its kind are, also on a device that has failed.
func TestInject(t *testing.T) {
	for _, dead := range []bool{false, true} {
		d := sample()
		d.Dead = dead
		want := sample()
		want.Dead = dead
		for _, f := range goodFaults() {
			var e api.Errno
			d, e = Inject(d, f)
			want.Faults = append(want.Faults, f)
			check(t, "Inject", d, e, want, api.OK)
		}
		again, e := Inject(d, want.Faults[0])
		want.Faults = append(want.Faults, want.Faults[0])
		check(t, "Inject of the same fault", again, e, want, api.OK)
	}
}

// TestInjectErrors checks P4.2: the errors, their order, and the zero device.
func TestInjectErrors(t *testing.T) {
	good := api.Fault{Kind: api.FaultDead, At: 9}
	almost := sample(slices.Repeat([]api.Fault{good}, 63)...)
	full := sample(slices.Repeat([]api.Fault{good}, 64)...)
	d, e := Inject(almost, good)
	check(t, "the last fault", d, e, full, api.OK)
	d, e = Inject(full, good)
	check(t, "one fault too many", d, e, api.Device{}, api.ErrLimit)
	for _, f := range badFaults() {
		d, e := Inject(sample(), f)
		check(t, "fault not valid", d, e, api.Device{}, api.ErrRange)
		d, e = Inject(full, f)
		check(t, "fault not valid, list full", d, e, api.Device{}, api.ErrRange)
	}
	for _, bad := range badDevices() {
		for _, f := range []api.Fault{{}, {Kind: api.FaultDead, At: api.MaxLSN}} {
			d, e := Inject(bad, f)
			check(t, "device not valid", d, e, api.Device{}, api.ErrState)
		}
	}
	last := sample()
	last.Writes = api.MaxLSN
	d, e = Inject(last, api.Fault{Kind: api.FaultDead, At: api.MaxLSN})
	check(t, "no write to come", d, e, api.Device{}, api.ErrRange)
}

// badPages are numbers that name no page of sample.
var badPages = []int{-1, 4, 5, 64, math.MinInt64, math.MaxInt64}

// TestRead checks P4.3: the bytes of each page that can be read.
func TestRead(t *testing.T) {
	d := sample(goodFaults()...)
	for page := range 3 {
		if s, e := Read(d, page); s != text(page) || e != api.OK {
			t.Errorf("Read of page %d: %q, %d", page, s, e)
		}
	}
}

// TestReadErrors checks P4.3: the errors, their order, and no bytes.
func TestReadErrors(t *testing.T) {
	refuse := func(name string, d api.Device, page int, want api.Errno) {
		t.Helper()
		if s, e := Read(d, page); s != "" || e != want {
			t.Errorf("%s: Read of page %d: %q, %d, want %d", name, page, s, e, want)
		}
	}
	refuse("unreadable", sample(), 3, api.ErrUnreadable)
	dead := sample()
	dead.Dead = true
	for _, page := range badPages {
		refuse("no page", sample(), page, api.ErrRange)
		refuse("dead, no page", dead, page, api.ErrDead)
	}
	for page := range 4 {
		refuse("dead", dead, page, api.ErrDead)
	}
	for _, bad := range badDevices() {
		for _, page := range []int{0, 3, -1, 64} {
			refuse("not valid", bad, page, api.ErrState)
			bad.Dead = true
			refuse("not valid, dead", bad, page, api.ErrState)
		}
	}
	some := api.Device{Pages: slices.Repeat([]string{blank}, 64), Unreadable: []int{0, 31, 63}}
	for page := range 64 {
		if page == 0 || page == 31 || page == 63 {
			refuse("some unreadable", some, page, api.ErrUnreadable)
		} else if s, e := Read(some, page); s != blank || e != api.OK {
			t.Errorf("Read of page %d: %q, %d", page, s, e)
		}
	}
}

// TestReplace checks P4.5: as many pages, blank and readable, not dead, with the writes and the faults as they were.
func TestReplace(t *testing.T) {
	for _, dead := range []bool{false, true} {
		d := sample(goodFaults()...)
		d.Dead = dead
		d.Unreadable = []int{0, 1, 3}
		got, e := Replace(d)
		check(t, "Replace", got, e, api.Device{Pages: []string{blank, blank, blank, blank}, Writes: 5, Faults: goodFaults()}, api.OK)
	}
	for _, n := range []int{1, 64} {
		d, _ := New(n)
		d.Writes = api.MaxLSN
		got, e := Replace(d)
		check(t, "Replace of a blank device", got, e, d, api.OK)
	}
	for _, bad := range badDevices() {
		d, e := Replace(bad)
		check(t, "Replace of a device that is not valid", d, e, api.Device{}, api.ErrState)
	}
}

// TestReplaceGoesOn checks P4.5: the new device counts its writes on, and what was to come to the old one comes to it.
func TestReplaceGoesOn(t *testing.T) {
	d := sample(api.Fault{Kind: api.FaultDead, At: 6}, api.Fault{Kind: api.FaultLost, At: 7})
	d, _ = Write(d, 0, text(9))
	if _, e := Read(d, 0); e != api.ErrDead {
		t.Errorf("Read of a device that has failed: %d", e)
	}
	d, _ = Replace(d)
	d, e := Write(d, 0, text(9))
	check(t, "lost on the new device", d, e, api.Device{Pages: []string{blank, blank, blank, blank}, Writes: 7}, api.OK)
}

// TestTear checks P4.5: at each byte, the first bytes are new and the others old; no write is counted, no fault happens, and the page can be read.
func TestTear(t *testing.T) {
	for cut := 0; cut <= 256; cut++ {
		for page := range 4 {
			got, e := Tear(sample(goodFaults()...), page, text(9), cut)
			want := sample(goodFaults()...)
			want.Pages[page] = text(9)[:cut] + text(page)[cut:]
			if page == 3 {
				want.Unreadable = nil
			}
			check(t, "Tear", got, e, want, api.OK)
		}
	}
	last := sample()
	last.Writes = api.MaxLSN
	got, e := Tear(last, 0, text(9), 256)
	last.Pages = []string{text(9), text(1), text(2), text(3)}
	check(t, "Tear behind the last write", got, e, last, api.OK)
}

// TestTearErrors checks P4.5: the errors, their order, and the zero device.
func TestTearErrors(t *testing.T) {
	refuse := func(name string, d api.Device, page int, s string, cut int, want api.Errno) {
		t.Helper()
		got, e := Tear(d, page, s, cut)
		check(t, name, got, e, api.Device{}, want)
	}
	dead := sample()
	dead.Dead = true
	refuse("dead", dead, 0, text(9), 3, api.ErrDead)
	refuse("dead, all wrong", dead, 4, "", 257, api.ErrDead)
	for _, page := range badPages {
		refuse("no page", sample(), page, text(9), 3, api.ErrRange)
		refuse("no page, size", sample(), page, "", 3, api.ErrRange)
	}
	for _, cut := range []int{-1, 257, math.MinInt64, math.MaxInt64} {
		refuse("cut", sample(), 0, text(9), cut, api.ErrRange)
		refuse("cut, size", sample(), 0, "", cut, api.ErrRange)
	}
	for _, s := range badBytes() {
		refuse("size", sample(), 0, s, 0, api.ErrSize)
		refuse("size", sample(), 3, s, 256, api.ErrSize)
	}
	for _, bad := range badDevices() {
		refuse("not valid", bad, 0, text(9), 3, api.ErrState)
		bad.Dead = true
		refuse("not valid, all wrong", bad, 64, "", -1, api.ErrState)
	}
}

// badBytes are bytes that do not have the length of a page.
func badBytes() []string {
	return []string{"", "x", text(9)[1:], text(9) + "x", text(9) + text(9)}
}
