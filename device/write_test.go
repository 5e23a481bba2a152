package device

import (
	"fmt"
	"math"
	"math/rand"
	"slices"
	"testing"

	"pagemend/api"
)

// TestWrite checks P4.4: a write without faults replaces the bytes of one page, which can be read, and is counted.
func TestWrite(t *testing.T) {
	for page := range 4 {
		got, e := Write(sample(), page, text(9))
		want := sample()
		want.Writes = 6
		want.Pages[page] = text(9)
		if page == 3 {
			want.Unreadable = nil
		}
		check(t, "Write", got, e, want, api.OK)
		if s, e := Read(got, page); s != text(9) || e != api.OK {
			t.Errorf("page %d reads %q, %d", page, s, e)
		}
	}
}

// TestWriteReadable checks P4.4: of several pages that cannot be read, only the one that was written can be again.
func TestWriteReadable(t *testing.T) {
	for page := range 4 {
		d := sample()
		d.Unreadable = []int{0, 1, 2, 3}
		d, e := Write(d, page, text(page))
		want := sample()
		want.Writes, want.Unreadable = 6, slices.Delete([]int{0, 1, 2, 3}, page, page+1)
		check(t, "Write", d, e, want, api.OK)
	}
}

// TestWriteLost checks P4.4 and example 1: a lost write is counted and does nothing, also to a page that cannot be read.
func TestWriteLost(t *testing.T) {
	for page := range 4 {
		d, e := Write(sample(api.Fault{Kind: api.FaultLost, At: 6}), page, text(9))
		want := sample()
		want.Writes = 6
		check(t, "lost", d, e, want, api.OK)
	}
	d, _ := New(1)
	d, _ = Inject(d, api.Fault{Kind: api.FaultLost, At: 2})
	d, _ = Write(d, 0, text(1))
	d, e := Write(d, 0, text(2))
	check(t, "example 1", d, e, api.Device{Pages: []string{text(1)}, Writes: 2}, api.OK)
	if s, e := Read(d, 0); s != text(1) || e != api.OK {
		t.Errorf("the page 0 reads %q, %d", s, e)
	}
}

// TestWriteMisdirected checks P4.4: Target has the bytes and can be read, and the page stays as it was, also unreadable.
func TestWriteMisdirected(t *testing.T) {
	for page := range 4 {
		for target := range 4 {
			for _, unreadable := range [][]int{nil, {0, 1, 2, 3}} {
				d := sample(api.Fault{Kind: api.FaultMisdirect, At: 6, Target: target})
				d.Unreadable = unreadable
				d, e := Write(d, page, text(9))
				want := sample()
				want.Writes, want.Unreadable = 6, slices.DeleteFunc(slices.Clone(unreadable), func(p int) bool { return p == target })
				want.Pages[target] = text(9)
				check(t, "misdirected", d, e, want, api.OK)
			}
		}
	}
}

// TestWriteTorn checks P4.4: at each byte, the first bytes are new and the others old, and the page can be read.
func TestWriteTorn(t *testing.T) {
	for cut := range 256 {
		for page := range 4 {
			d, e := Write(sample(api.Fault{Kind: api.FaultTear, At: 6, Byte: cut}), page, text(9))
			want := sample()
			want.Writes = 6
			want.Pages[page] = text(9)[:cut] + text(page)[cut:]
			if page == 3 {
				want.Unreadable = nil
			}
			check(t, "torn", d, e, want, api.OK)
		}
	}
}

// TestWriteFirstCounts checks P4.4: of two faults that concern a write itself only the first one counts, also behind one that does not.
func TestWriteFirstCounts(t *testing.T) {
	faults := []api.Fault{
		{Kind: api.FaultLost, At: 6},
		{Kind: api.FaultMisdirect, At: 6, Target: 2},
		{Kind: api.FaultMisdirect, At: 6, Target: 3},
		{Kind: api.FaultTear, At: 6, Byte: 10},
		{Kind: api.FaultTear, At: 6, Byte: 200},
	}
	rot := api.Fault{Kind: api.FaultRot, At: 6, Page: 1, Byte: 7, Mask: 0x81}
	for _, first := range faults {
		want, _ := Write(sample(first), 0, text(9))
		rotten, _ := Write(sample(first, rot), 0, text(9))
		for _, second := range faults {
			got, e := Write(sample(first, second), 0, text(9))
			check(t, fmt.Sprint("two faults", first, second), got, e, want, api.OK)
			got, e = Write(sample(rot, first, second), 0, text(9))
			check(t, fmt.Sprint("rot before", first, second), got, e, rotten, api.OK)
			got, e = Write(sample(first, second, rot), 0, text(9))
			check(t, fmt.Sprint("rot behind", first, second), got, e, rotten, api.OK)
		}
	}
}

// TestWriteRot checks P4.4: each byte of each page is changed by exclusive or, behind the write, also of a page that cannot be read.
func TestWriteRot(t *testing.T) {
	for page := range 4 {
		for i := range 256 {
			mask := byte(i*5 + 1)
			if mask == 0 {
				mask = 0xFF
			}
			d, e := Write(sample(api.Fault{Kind: api.FaultRot, At: 6, Page: page, Byte: i, Mask: mask}), 1, text(9))
			want := sample()
			want.Writes = 6
			want.Pages[1] = text(9)
			b := []byte(want.Pages[page])
			b[i] ^= mask
			want.Pages[page] = string(b)
			check(t, "rot", d, e, want, api.OK)
		}
	}
}

// TestWriteRotTwice checks P4.4: masks for one byte are all applied, so that two equal ones change nothing.
func TestWriteRotTwice(t *testing.T) {
	rot := api.Fault{Kind: api.FaultRot, At: 6, Page: 2, Byte: 0, Mask: 0x0F}
	other := rot
	other.Mask = 0xF1
	d, _ := Write(sample(rot, other), 0, text(0))
	if want := text(2)[0] ^ 0xFE; d.Pages[2][0] != want {
		t.Errorf("two masks: %#x, want %#x", d.Pages[2][0], want)
	}
	d, e := Write(sample(rot, rot), 0, text(0))
	want := sample()
	want.Writes = 6
	check(t, "two equal masks", d, e, want, api.OK)
}

// TestWriteUnreadable checks P4.4: pages become unreadable behind the write, each once, and the list stays ascending.
func TestWriteUnreadable(t *testing.T) {
	for _, order := range [][]int{{0, 1, 2, 3}, {3, 2, 1, 0}, {2, 0, 3, 1}, {1, 1, 3, 3, 0, 2}} {
		var faults []api.Fault
		for _, page := range order {
			faults = append(faults, api.Fault{Kind: api.FaultUnreadable, At: 6, Page: page})
		}
		d, e := Write(sample(faults...), 3, text(9))
		want := sample()
		want.Writes, want.Unreadable, want.Pages[3] = 6, []int{0, 1, 2, 3}, text(9)
		check(t, fmt.Sprint("unreadable", order), d, e, want, api.OK)
	}
}

// TestWriteUnreadableReturns checks P4.4: a page that is hidden with its own write cannot be read, until it is written again.
func TestWriteUnreadableReturns(t *testing.T) {
	d := sample(api.Fault{Kind: api.FaultUnreadable, At: 6, Page: 2})
	d, _ = Write(d, 2, text(8))
	if s, e := Read(d, 2); s != "" || e != api.ErrUnreadable {
		t.Errorf("hidden page: %q, %d", s, e)
	}
	d, _ = Write(d, 1, text(7))
	if _, e := Read(d, 2); e != api.ErrUnreadable {
		t.Errorf("hidden page behind a write of another one: %d", e)
	}
	d, _ = Write(d, 2, text(9))
	if s, e := Read(d, 2); s != text(9) || e != api.OK {
		t.Errorf("page that was written again: %q, %d", s, e)
	}
}

// TestWriteDead checks P4.4: the write with which a device fails is done, and so are the harms behind; then nothing is.
func TestWriteDead(t *testing.T) {
	dead := api.Fault{Kind: api.FaultDead, At: 6}
	rot := api.Fault{Kind: api.FaultRot, At: 6, Page: 2, Byte: 4, Mask: 2}
	hide := api.Fault{Kind: api.FaultUnreadable, At: 6, Page: 1}
	later := api.Fault{Kind: api.FaultLost, At: 7}
	d, e := Write(sample(later, dead, rot, dead, hide), 0, text(9))
	want := sample(later)
	want.Writes, want.Dead, want.Unreadable = 6, true, []int{1, 3}
	want.Pages[0] = text(9)
	b := []byte(text(2))
	b[4] ^= 2
	want.Pages[2] = string(b)
	check(t, "dead", d, e, want, api.OK)
	again, e := Write(d, 0, text(8))
	check(t, "behind it", again, e, api.Device{}, api.ErrDead)
}

// TestWriteLostHarms checks P4.4: a write that is lost lets the harms happen all the same.
func TestWriteLostHarms(t *testing.T) {
	d, e := Write(sample(
		api.Fault{Kind: api.FaultUnreadable, At: 6, Page: 0},
		api.Fault{Kind: api.FaultLost, At: 6},
		api.Fault{Kind: api.FaultRot, At: 6, Page: 0, Byte: 255, Mask: 255},
		api.Fault{Kind: api.FaultDead, At: 6}), 0, text(9))
	want := sample()
	want.Writes, want.Dead, want.Unreadable = 6, true, []int{0, 3}
	want.Pages[0] = text(0)[:255] + string([]byte{^text(0)[255]})
	check(t, "lost, with harms", d, e, want, api.OK)
}

// TestWriteTargetHarms checks P4.4: harms happen behind a misdirected write, to what it has written.
func TestWriteTargetHarms(t *testing.T) {
	d, e := Write(sample(
		api.Fault{Kind: api.FaultRot, At: 6, Page: 3, Byte: 0, Mask: 1},
		api.Fault{Kind: api.FaultMisdirect, At: 6, Target: 3}), 0, text(9))
	want := sample()
	want.Writes, want.Unreadable = 6, nil
	want.Pages[3] = string([]byte{text(9)[0] ^ 1}) + text(9)[1:]
	check(t, "misdirected, with rot", d, e, want, api.OK)
}

// TestWriteFaultsLeave checks P4.4: only the faults of this write leave, and the others stay in their order.
func TestWriteFaultsLeave(t *testing.T) {
	l := goodFaults()
	d, e := Write(sample(l...), 0, text(9))
	var want []api.Fault
	for _, f := range l {
		if f.At != 6 {
			want = append(want, f)
		}
	}
	if e != api.OK || !slices.Equal(d.Faults, want) {
		t.Errorf("faults %v, want %v", d.Faults, want)
	}
	if len(want) != 4 || want[0].At != api.MaxLSN || want[1].At != 7 {
		t.Errorf("%v do not show it", want)
	}
}

// TestFaultsConcernOneWrite checks the consequence: the fault at a number concerns this write alone.
func TestFaultsConcernOneWrite(t *testing.T) {
	for at := 1; at <= 5; at++ {
		d, _ := New(2)
		d, _ = Inject(d, api.Fault{Kind: api.FaultLost, At: at})
		for n := 1; n <= 5; n++ {
			before := d.Pages[1]
			var e api.Errno
			d, e = Write(d, 1, text(n))
			want := text(n)
			if n == at {
				want = before
			}
			if e != api.OK || d.Pages[1] != want || d.Writes != n || (len(d.Faults) != 0) != (n < at) {
				t.Errorf("fault at %d, write %d: %s, %d", at, n, show(d), e)
			}
		}
	}
}

// TestWriteLast checks P4.4: the write with the last number is done, with its faults, and then no other one.
func TestWriteLast(t *testing.T) {
	d := sample(api.Fault{Kind: api.FaultRot, At: api.MaxLSN, Page: 1, Byte: 1, Mask: 1})
	d.Writes = api.MaxLSN - 1
	d, e := Write(d, 3, text(9))
	want := sample()
	want.Writes, want.Unreadable, want.Pages[3] = api.MaxLSN, nil, text(9)
	b := []byte(text(1))
	b[1] ^= 1
	want.Pages[1] = string(b)
	check(t, "the last write", d, e, want, api.OK)
	d, e = Write(d, 0, text(8))
	check(t, "one write too many", d, e, api.Device{}, api.ErrLimit)
}

// TestWriteErrors checks P4.4 and R4: the errors, their order, and the zero device; nothing changes in the device that was given.
func TestWriteErrors(t *testing.T) {
	refuse := func(name string, d api.Device, page int, s string, want api.Errno) {
		t.Helper()
		d, untouched := spare(d)
		got, e := Write(d, page, s)
		check(t, name, got, e, api.Device{}, want)
		if !untouched() {
			t.Errorf("%s: a refused write has changed %s", name, show(d))
		}
	}
	for _, dead := range []bool{false, true} {
		for _, writes := range []int{5, api.MaxLSN} {
			for _, page := range append([]int{0, 3}, badPages...) {
				for _, s := range append(badBytes(), text(9)) {
					d := sample()
					d.Dead, d.Writes = dead, writes
					switch {
					case dead:
						refuse("dead", d, page, s, api.ErrDead)
					case page != 0 && page != 3:
						refuse("no page", d, page, s, api.ErrRange)
					case len(s) != 256:
						refuse("size", d, page, s, api.ErrSize)
					case writes == api.MaxLSN:
						refuse("limit", d, page, s, api.ErrLimit)
					}
				}
			}
		}
	}
	refuse("no page, with faults", sample(goodFaults()...), 4, text(9), api.ErrRange)
	refuse("size, with faults", sample(goodFaults()...), 3, "x", api.ErrSize)
	for _, bad := range badDevices() {
		refuse("not valid", bad, 0, text(9), api.ErrState)
		bad.Dead = true
		refuse("not valid, all wrong", bad, math.MaxInt64, "", api.ErrState)
	}
}

// TestWriteRefused checks P4.4: a write that is refused does not count, and its faults come with the next one that is done.
func TestWriteRefused(t *testing.T) {
	for _, bad := range []struct {
		page int
		s    string
	}{{4, text(9)}, {-1, ""}, {0, ""}, {3, "x"}} {
		d := sample(goodFaults()...)
		want, _ := Write(sample(goodFaults()...), 0, text(9))
		got, e := Write(d, bad.page, bad.s)
		if e == api.OK || !same(got, api.Device{}) {
			t.Errorf("page %d, %d bytes: %s, %d", bad.page, len(bad.s), show(got), e)
		}
		got, e = Write(d, 0, text(9))
		check(t, "behind a refused write", got, e, want, api.OK)
	}
}

// spare returns d with room behind the elements of its lists, and what is in this room.
func spare(d api.Device) (api.Device, func() bool) {
	pages := append(slices.Clone(d.Pages), "a", "b")
	unreadable := append(slices.Clone(d.Unreadable), 91, 92)
	faults := append(slices.Clone(d.Faults), api.Fault{Kind: 91}, api.Fault{Kind: 92})
	kept := fmt.Sprint(pages, unreadable, faults)
	d.Pages, d.Unreadable, d.Faults = pages[:len(d.Pages)], unreadable[:len(d.Unreadable)], faults[:len(d.Faults)]
	return d, func() bool { return kept == fmt.Sprint(pages, unreadable, faults) }
}

// TestArguments checks R2: no function modifies the lists that it is given, nor what lies behind their elements.
func TestArguments(t *testing.T) {
	for _, f := range goodFaults() {
		d, untouched := spare(sample(f, api.Fault{Kind: api.FaultUnreadable, At: 6, Page: 1}, f))
		Valid(d)
		Inject(d, f)
		Read(d, 3)
		for page := range 4 {
			Write(d, page, text(9))
			Tear(d, page, text(9), 100)
		}
		Replace(d)
		if !untouched() {
			t.Errorf("a list was modified, with %v", f)
		}
	}
}

// TestResults checks that results that began with one device do not disturb each other.
func TestResults(t *testing.T) {
	d, _ := spare(sample(api.Fault{Kind: api.FaultUnreadable, At: 6, Page: 0}))
	a, _ := Inject(d, api.Fault{Kind: api.FaultLost, At: 8})
	b, _ := Inject(d, api.Fault{Kind: api.FaultDead, At: 8})
	if a.Faults[1].Kind != api.FaultLost || b.Faults[1].Kind != api.FaultDead {
		t.Errorf("%v and %v", a.Faults, b.Faults)
	}
	a, _ = Write(d, 0, text(7))
	b, _ = Write(d, 1, text(8))
	if a.Pages[0] != text(7) || a.Pages[1] != text(1) || b.Pages[0] != text(0) || b.Pages[1] != text(8) {
		t.Errorf("%s and %s", show(a), show(b))
	}
}

// model is a device as plainly as it can be said: its bytes, and which pages cannot be read.
type model struct {
	bytes  [][]byte
	hidden map[int]bool
	dead   bool
	writes int
	faults []api.Fault
}

// write writes s to a page of the model, fault by fault.
func (m *model) write(page int, s string) {
	m.writes++
	target, count, decided := page, 256, false
	var rest, harms []api.Fault
	for _, f := range m.faults {
		switch {
		case f.At != m.writes:
			rest = append(rest, f)
		case f.Kind >= api.FaultRot:
			harms = append(harms, f)
		case !decided && f.Kind == api.FaultLost:
			decided, target = true, -1
		case !decided && f.Kind == api.FaultMisdirect:
			decided, target = true, f.Target
		case !decided && f.Kind == api.FaultTear:
			decided, count = true, f.Byte
		}
	}
	m.faults = rest
	if target >= 0 {
		copy(m.bytes[target][:count], s)
		delete(m.hidden, target)
	}
	for _, f := range harms {
		switch f.Kind {
		case api.FaultRot:
			m.bytes[f.Page][f.Byte] ^= f.Mask
		case api.FaultUnreadable:
			m.hidden[f.Page] = true
		case api.FaultDead:
			m.dead = true
		}
	}
}

// device returns the model as a device.
func (m *model) device() api.Device {
	d := api.Device{Writes: m.writes, Dead: m.dead, Faults: m.faults}
	for page, b := range m.bytes {
		d.Pages = append(d.Pages, string(b))
		if m.hidden[page] {
			d.Unreadable = append(d.Unreadable, page)
		}
	}
	return d
}

// anyFault returns a fault that is valid for a device with so many pages and writes.
func anyFault(r *rand.Rand, pages, writes int) api.Fault {
	f := api.Fault{Kind: 1 + r.Intn(6), At: writes + 1 + r.Intn(3)}
	switch f.Kind {
	case api.FaultMisdirect:
		f.Target = r.Intn(pages)
	case api.FaultTear:
		f.Byte = r.Intn(256)
	case api.FaultRot:
		f.Page, f.Byte, f.Mask = r.Intn(pages), r.Intn(256), uint8(1+r.Intn(255))
	case api.FaultUnreadable:
		f.Page = r.Intn(pages)
	}
	return f
}

// TestAgainstModel plays scripts of writes, faults, crashes and replacements on a device and on the model.
func TestAgainstModel(t *testing.T) {
	for seed := range 300 {
		r := rand.New(rand.NewSource(int64(seed)))
		pages := 1 + r.Intn(5)
		d, _ := New(pages)
		m := &model{bytes: make([][]byte, pages), hidden: map[int]bool{}}
		for i := range m.bytes {
			m.bytes[i] = make([]byte, 256)
		}
		for n := range 60 {
			var e api.Errno
			page, s := r.Intn(pages), text(n+1)
			switch k := r.Intn(12); {
			case m.dead:
				d, e = Replace(d)
				for i := range m.bytes {
					m.bytes[i] = make([]byte, 256)
				}
				m.dead, m.hidden = false, map[int]bool{}
			case k < 5:
				f := anyFault(r, pages, m.writes)
				d, e = Inject(d, f)
				m.faults = append(m.faults, f)
			case k == 5:
				cut := r.Intn(257)
				d, e = Tear(d, page, s, cut)
				copy(m.bytes[page][:cut], s)
				delete(m.hidden, page)
			default:
				d, e = Write(d, page, s)
				m.write(page, s)
			}
			if e != api.OK || !same(d, m.device()) || !Valid(d) {
				t.Fatalf("seed %d, step %d: %s, %d, want %s", seed, n, show(d), e, show(m.device()))
			}
		}
	}
}

// FuzzDevice checks that no function panics, that results are valid, and zero with an error, whatever is given.
func FuzzDevice(f *testing.F) {
	f.Add(3, 5, 1, 1, 6, 0, 0, 0, byte(0), 0, text(9), 3)
	f.Add(2, 0, -1, 4, 1, 1, 0, 255, byte(7), 1, "x", 257)
	f.Fuzz(func(t *testing.T, pages, writes, hidden, kind, at, faultPage, target, index int, mask byte, page int, s string, cut int) {
		d, e := New(pages)
		if (e == api.OK) != (pages >= 1 && pages <= 64) {
			t.Fatalf("New(%d): %d", pages, e)
		}
		d.Writes, d.Unreadable = writes, []int{hidden}
		d.Faults = []api.Fault{{Kind: kind, At: at, Page: faultPage, Target: target, Byte: index, Mask: mask}}
		written, e := Write(d, page, s)
		if e == api.OK && written.Writes != writes+1 {
			t.Fatalf("Write: %s", show(written))
		}
		for _, x := range []func() (api.Device, api.Errno){
			func() (api.Device, api.Errno) { return written, e },
			func() (api.Device, api.Errno) { return Tear(d, page, s, cut) },
			func() (api.Device, api.Errno) { return Replace(d) },
			func() (api.Device, api.Errno) { return Inject(d, d.Faults[0]) },
		} {
			if got, e := x(); e == api.OK && !Valid(got) || e != api.OK && !same(got, api.Device{}) {
				t.Fatalf("%s, %d", show(got), e)
			}
		}
		if got, e := Read(d, page); (len(got) == 256) != (e == api.OK) {
			t.Fatalf("Read: %q, %d", got, e)
		}
	})
}
