package page

import (
	"encoding/binary"
	"hash/crc32"
	"math"
	"strings"
	"testing"

	"pagemend/api"
)

// zeros returns n bytes 0.
func zeros(n int) string { return strings.Repeat("\x00", n) }

// sample returns a valid page with cells of all lengths, and one that is not set.
func sample(id, lsn int) api.Page {
	p := New(id)
	p.LSN = lsn
	for i := range p.Cells {
		if i != 5 {
			p.Cells[i] = api.Cell{Set: true, Data: "abcdefghijkl"[:i%(api.MaxData+1)]}
		}
	}
	return p
}

// with returns p with the cell c in a slot.
func with(p api.Page, slot int, c api.Cell) api.Page {
	p.Cells[slot] = c
	return p
}

// encoded returns the bytes of a page that must be valid.
func encoded(t *testing.T, p api.Page) string {
	t.Helper()
	s, e := Encode(p)
	if e != api.OK || len(s) != api.PageSize {
		t.Fatalf("Encode(%v) = %d bytes, %d", p, len(s), e)
	}
	return s
}

// layout returns the bytes that the document demands of a page, built from literal places.
func layout(p api.Page) string {
	b := make([]byte, 256)
	binary.LittleEndian.PutUint64(b, uint64(p.LSN))
	binary.LittleEndian.PutUint32(b[8:], uint32(p.ID))
	for i, c := range p.Cells {
		cell := b[12+13*i : 25+13*i]
		cell[0] = 255
		if c.Set {
			cell[0] = byte(len(c.Data))
			copy(cell[1:], c.Data)
		}
	}
	binary.LittleEndian.PutUint32(b[244:], crc32.Checksum(b[:244], crc32.MakeTable(crc32.Castagnoli)))
	binary.LittleEndian.PutUint64(b[248:], uint64(p.LSN))
	return string(b)
}

// put returns s with the bytes b at the index at.
func put(s string, at int, b string) string { return s[:at] + b + s[at+len(b):] }

// sealed returns s with the checksum that belongs to its other bytes.
func sealed(s string) string {
	var b [4]byte
	binary.LittleEndian.PutUint32(b[:], crc32.Checksum([]byte(s[:244]), crc32.MakeTable(crc32.Castagnoli)))
	return put(s, 244, string(b[:]))
}

// withLSN returns the bytes s with another LSN at both places, and the checksum that belongs to it.
func withLSN(s string, lsn int) string {
	var b [8]byte
	binary.LittleEndian.PutUint64(b[:], uint64(lsn))
	return sealed(put(put(s, 0, string(b[:])), 248, string(b[:])))
}

// TestNew checks P2.1: the ID, whatever it is, the LSN 0, and empty cells.
func TestNew(t *testing.T) {
	for _, id := range []int{0, 3, api.MaxPages - 1, api.MaxPages, -1, math.MinInt64, math.MaxInt64} {
		if got := New(id); got != (api.Page{ID: id}) {
			t.Errorf("New(%d) = %v", id, got)
		}
	}
}

// TestBlank checks P2.1: blank bytes.
func TestBlank(t *testing.T) {
	if Blank() != zeros(256) {
		t.Errorf("Blank() = %q", Blank())
	}
}

// pageCase is a page, and what Encode says of it.
type pageCase struct {
	name string
	p    api.Page
	e    api.Errno
}

// pageCases are pages of all kinds, valid ones first.
func pageCases() []pageCase {
	long := strings.Repeat("x", api.MaxData)
	p := sample(3, 7)
	numbers := func(id, lsn int) api.Page {
		q := New(id)
		q.LSN = lsn
		return q
	}
	set := func(data string) api.Cell { return api.Cell{Set: true, Data: data} }
	return []pageCase{
		{"first", New(0), api.OK},
		{"last", New(api.MaxPages - 1), api.OK},
		{"cells of all lengths", p, api.OK},
		{"LSN without cells", numbers(3, 1), api.OK},
		{"greatest LSN", sample(3, api.MaxLSN), api.OK},
		{"longest data", with(p, 0, set(long)), api.OK},
		{"longest data in the last cell", with(p, api.Slots-1, set(long)), api.OK},
		{"data 0 and 255", with(p, 9, set("\x00\xff\x00")), api.OK},
		{"ID -1", numbers(-1, 7), api.ErrRange},
		{"ID too great", numbers(api.MaxPages, 7), api.ErrRange},
		{"ID of more than 4 bytes", numbers(1<<32, 7), api.ErrRange},
		{"least ID", numbers(math.MinInt64, 7), api.ErrRange},
		{"greatest ID", numbers(math.MaxInt64, 7), api.ErrRange},
		{"LSN -1", numbers(3, -1), api.ErrRange},
		{"LSN too great", numbers(3, api.MaxLSN+1), api.ErrRange},
		{"least number", numbers(3, math.MinInt64), api.ErrRange},
		{"greatest number", numbers(3, math.MaxInt64), api.ErrRange},
		{"data too long", with(p, 0, set(long+"x")), api.ErrData},
		{"data too long in the last cell", with(p, api.Slots-1, set(long+"x")), api.ErrData},
		{"data of 255 bytes", with(p, 0, set(strings.Repeat("x", 255))), api.ErrData},
		{"data of 256 bytes", with(p, 0, set(strings.Repeat("x", 256))), api.ErrData},
		{"data of an empty cell", with(p, 5, api.Cell{Data: "x"}), api.ErrData},
		{"data of the last cell, empty", with(p, api.Slots-1, api.Cell{Data: "x"}), api.ErrData},
		{"set with the LSN 0", with(New(3), 0, set("x")), api.ErrData},
		{"set without data with the LSN 0", with(New(3), api.Slots-1, set("")), api.ErrData},
		{"data of an empty cell with the LSN 0", with(New(3), 1, api.Cell{Data: "x"}), api.ErrData},
		{"ID before cells", with(numbers(-1, 7), 0, set(long+"x")), api.ErrRange},
		{"LSN before cells", with(numbers(3, -1), 0, set(long+"x")), api.ErrRange},
		{"ID before a cell with the LSN 0", with(New(api.MaxPages), 0, set("x")), api.ErrRange},
	}
}

// TestValid checks P2.1: a page is valid if it can be encoded.
func TestValid(t *testing.T) {
	for _, c := range pageCases() {
		if got := Valid(c.p); got != (c.e == api.OK) {
			t.Errorf("%s: Valid(%v) = %t", c.name, c.p, got)
		}
	}
}

// TestEncode checks P2.2: all bytes, and the errors in their order.
func TestEncode(t *testing.T) {
	for _, c := range pageCases() {
		want := ""
		if c.e == api.OK {
			want = layout(c.p)
		}
		if s, e := Encode(c.p); s != want || e != c.e {
			t.Errorf("%s: Encode(%v) = %q, %d, want %q, %d", c.name, c.p, s, e, want, c.e)
		}
	}
}

// TestEncodeExample checks the example of the chapter, and places that the layout names.
func TestEncodeExample(t *testing.T) {
	s := encoded(t, New(3))
	if s[8] != 3 || s[:8] != zeros(8) || s[12] != 255 || s[220:244] != zeros(24) || s[248:] != zeros(8) {
		t.Errorf("Encode(New(3)) = %q", s)
	}
}

// TestDecode checks P2.3 and a consequence: what was encoded is decoded.
func TestDecode(t *testing.T) {
	for _, c := range pageCases() {
		if c.e != api.OK {
			continue
		}
		if p, e := Decode(encoded(t, c.p)); p != c.p || e != api.OK {
			t.Errorf("%s: %v returns as %v, %d", c.name, c.p, p, e)
		}
	}
	for id := range api.MaxPages {
		if p, e := Decode(encoded(t, sample(id, id+1))); p != sample(id, id+1) || e != api.OK {
			t.Errorf("page %d returns as %v, %d", id, p, e)
		}
	}
}

// brokenCase is bytes of no page, with the error of Decode.
type brokenCase struct {
	name, s string
	e       api.Errno
}

// brokenCases are bytes of no page, for each error in the order of the document.
func brokenCases(t *testing.T) []brokenCase {
	t.Helper()
	s := encoded(t, sample(3, 7))
	full := with(sample(3, 7), 15, api.Cell{Set: true, Data: "abcdefghijkl"})
	return []brokenCase{
		{"nothing", "", api.ErrSize},
		{"a byte less", s[:255], api.ErrSize},
		{"a byte more", s + "\x00", api.ErrSize},
		{"a blank byte less", zeros(255), api.ErrSize},
		{"two pages", s + s, api.ErrSize},
		{"blank", zeros(256), api.ErrBlank},
		{"one byte not blank", put(zeros(256), 100, "\x01"), api.ErrSum},
		{"last byte not blank", put(zeros(256), 255, "\x01"), api.ErrPosition},
		{"first LSN", put(s, 0, "\x08"), api.ErrPosition},
		{"last byte of the first LSN", put(s, 7, "\x01"), api.ErrPosition},
		{"last byte of the second LSN", put(s, 255, "\x01"), api.ErrPosition},
		{"LSNs differ, right sum", sealed(put(s, 0, "\x08")), api.ErrPosition},
		{"LSNs differ, wrong sum and form", put(put(s, 0, "\x08"), 12, "\x0d"), api.ErrPosition},
		{"sum", put(s, 244, string([]byte{s[244] ^ 1})), api.ErrSum},
		{"LSN changed at both places", put(put(s, 0, "\x08"), 248, "\x08"), api.ErrSum},
		{"wrong sum and form", put(s, 12, "\x0d"), api.ErrSum},
		{"ID too great", sealed(put(s, 8, "\x40")), api.ErrForm},
		{"ID in its highest byte", sealed(put(s, 11, "\x80")), api.ErrForm},
		{"ID of only ones", sealed(put(s, 8, "\xff\xff\xff\xff")), api.ErrForm},
		{"LSN too great", withLSN(s, api.MaxLSN+1), api.ErrForm},
		{"LSN -1", withLSN(s, -1), api.ErrForm},
		{"least LSN", withLSN(s, math.MinInt64), api.ErrForm},
		{"LSN 0 with cells that are set", withLSN(s, 0), api.ErrForm},
		{"count 13", sealed(put(s, 12, "\x0d")), api.ErrForm},
		{"count 13 behind full data", sealed(put(encoded(t, full), 12+13*15, "\x0d")), api.ErrForm},
		{"count 254 in the last cell", sealed(put(encoded(t, full), 12+13*15, "\xfe")), api.ErrForm},
		{"data of an empty cell", sealed(put(s, 12+13*5+1, "x")), api.ErrForm},
		{"last byte of an empty cell", sealed(put(s, 12+13*5+12, "x")), api.ErrForm},
		{"byte behind the data of a cell", sealed(put(s, 12+13*2+3, "x")), api.ErrForm},
		{"last byte behind data of a cell", sealed(put(s, 12+13*2+12, "x")), api.ErrForm},
		{"first byte behind the cells", sealed(put(s, 220, "x")), api.ErrForm},
		{"last byte before the sum", sealed(put(s, 243, "x")), api.ErrForm},
		{"blank bytes with their right sum", sealed(zeros(256)), api.ErrForm},
	}
}

// TestDecodeErrors checks P2.3: each error, and which one comes first.
func TestDecodeErrors(t *testing.T) {
	for _, c := range brokenCases(t) {
		if p, e := Decode(c.s); p != (api.Page{}) || e != c.e {
			t.Errorf("%s: %v, %d, want %d", c.name, p, e, c.e)
		}
	}
}

// TestIdentify checks P2.4: the page that is there, and a new one for blank bytes.
func TestIdentify(t *testing.T) {
	for id := range api.MaxPages {
		if p, e := Identify(Blank(), id); p != New(id) || e != api.OK {
			t.Errorf("blank bytes are %v, %d instead of the page %d", p, e, id)
		}
		for _, want := range []api.Page{New(id), sample(id, 9)} {
			if p, e := Identify(encoded(t, want), id); p != want || e != api.OK {
				t.Errorf("%v is %v, %d", want, p, e)
			}
		}
	}
}

// TestIdentifyErrors checks P2.4: the errors in their order.
func TestIdentifyErrors(t *testing.T) {
	check := func(name, s string, id int, want api.Errno) {
		t.Helper()
		if p, e := Identify(s, id); p != (api.Page{}) || e != want {
			t.Errorf("%s: %v, %d, want %d", name, p, e, want)
		}
	}
	s := encoded(t, sample(3, 7))
	for _, id := range []int{-1, api.MaxPages, math.MinInt64, math.MaxInt64} {
		check("no ID", s, id, api.ErrRange)
		check("no ID, blank", Blank(), id, api.ErrRange)
		check("no ID, no page", "", id, api.ErrRange)
	}
	for _, c := range brokenCases(t) {
		if c.e != api.ErrBlank {
			check(c.name, c.s, 3, c.e)
			check(c.name, c.s, 4, c.e)
		}
	}
	for _, id := range []int{0, 2, 4, api.MaxPages - 1} {
		check("another page", s, id, api.ErrIdentity)
		check("another new page", encoded(t, New(3)), id, api.ErrIdentity)
	}
}

// TestChangedBytes checks a consequence: bytes in which one byte was changed are refused.
func TestChangedBytes(t *testing.T) {
	for _, p := range []api.Page{New(0), sample(3, 7), sample(63, api.MaxLSN)} {
		s := encoded(t, p)
		for i := range len(s) {
			for mask := 1; mask < 256; mask++ {
				b := []byte(s)
				b[i] ^= byte(mask)
				if q, e := Decode(string(b)); q != (api.Page{}) || e == api.OK || e == api.ErrBlank {
					t.Fatalf("%v with the byte %d changed by %d: %v, %d", p, i, mask, q, e)
				}
			}
		}
	}
}

// TestTornPages checks a consequence: of two versions that are mixed, one is read, or none.
func TestTornPages(t *testing.T) {
	versions := []string{Blank(), encoded(t, New(3))}
	for _, lsn := range []int{1, 2, 255, 256, 257, 1<<40 - 1, 1 << 40} {
		p := New(3)
		p.LSN = lsn
		versions = append(versions, encoded(t, p), encoded(t, sample(3, lsn)))
	}
	for _, a := range versions {
		for _, b := range versions {
			if a[:8] == b[:8] {
				continue
			}
			for k := range len(a) + 1 {
				s := a[:k] + b[k:]
				p, e := Identify(s, 3)
				if s != a && s != b && (p != (api.Page{}) || e == api.OK) {
					t.Fatalf("the first %d bytes of %q before the others of %q: %v, %d", k, a, b, p, e)
				}
			}
		}
	}
}

// FuzzDecode checks a consequence: bytes that are decoded are those that Encode returns, and the page is valid.
func FuzzDecode(f *testing.F) {
	for _, p := range []api.Page{New(3), sample(3, 7), sample(63, api.MaxLSN)} {
		s, _ := Encode(p)
		for i := range len(s) {
			f.Add(s[:i] + string([]byte{s[i] ^ 0x55}) + s[i+1:])
		}
		f.Add(s)
	}
	f.Fuzz(func(t *testing.T, s string) {
		if len(s) == api.PageSize && s != Blank() { // most bytes would be refused for their sum alone
			s = sealed(put(s, 248, s[:8]))
		}
		p, e := Decode(s)
		if e != api.OK {
			if p != (api.Page{}) {
				t.Errorf("%q: %v, %d", s, p, e)
			}
			return
		}
		if q, e := Encode(p); q != s || e != api.OK || !Valid(p) {
			t.Errorf("%q is decoded as %v, which is encoded as %q, %d", s, p, q, e)
		}
	})
}
