package entry

import (
	"encoding/binary"
	"math"
	"math/rand"
	"strings"
	"testing"

	"pagemend/api"
)

// plain returns the bytes of an entry as the chapter lists them, whether it is valid or not.
func plain(e api.Entry) string {
	b := binary.LittleEndian.AppendUint64(nil, uint64(e.LSN))
	b = append(b, byte(e.Kind))
	b = binary.LittleEndian.AppendUint32(b, uint32(e.Tx))
	b = binary.LittleEndian.AppendUint64(b, uint64(e.PrevTx))
	b = binary.LittleEndian.AppendUint64(b, uint64(e.PrevPage))
	b = binary.LittleEndian.AppendUint64(b, uint64(e.Ref))
	b = binary.LittleEndian.AppendUint32(b, uint32(e.Change.Page))
	b = append(b, byte(e.Change.Slot))
	for _, c := range []api.Cell{e.Change.Before, e.Change.After} {
		if c.Set {
			b = append(append(b, byte(len(c.Data))), c.Data...)
		} else {
			b = append(b, 255)
		}
	}
	b = binary.LittleEndian.AppendUint32(b, uint32(len(e.Blob)))
	return string(append(b, e.Blob...))
}

// checkDecode checks what Decode returns.
func checkDecode(t *testing.T, name, s string, want api.Entry, wantError api.Errno) {
	t.Helper()
	if e, err := Decode(s); e != want || err != wantError {
		t.Errorf("%s: Decode(%.80q): %+.60v, %d, want %+.60v, %d", name, s, e, err, want, wantError)
	}
}

// TestExample checks the chapter's example: a commit has 48 bytes.
func TestExample(t *testing.T) {
	s, e := Encode(api.Entry{LSN: 9, Kind: api.EntryCommit, Tx: 2, PrevTx: 8})
	want := "\x09\x00\x00\x00\x00\x00\x00\x00\x03\x02\x00\x00\x00\x08\x00\x00\x00\x00\x00\x00\x00" +
		strings.Repeat("\x00", 8+8+4+1) + "\xff\xff\x00\x00\x00\x00"
	if e != api.OK || len(s) != 48 || s != want {
		t.Errorf("commit: %q (%d bytes), %d", s, len(s), e)
	}
}

// TestEncode checks P5.2: the bytes of valid entries, from which Decode makes them again.
func TestEncode(t *testing.T) {
	for _, e := range goodEntries() {
		s, err := Encode(e)
		if s != plain(e) || err != api.OK {
			t.Errorf("Encode(%+.60v): %.80q, %d, want %.80q", e, s, err, plain(e))
		}
		checkDecode(t, "what Encode returns", s, e, api.OK)
	}
}

// TestEncodeErrors checks P5.2: an entry that is not valid has no bytes, and its bytes are no entry.
func TestEncodeErrors(t *testing.T) {
	for _, e := range badEntries() {
		if s, err := Encode(e); s != "" || err != api.ErrEntry {
			t.Errorf("Encode(%+.60v): %.80q, %d", e, s, err)
		}
		if fits(e) {
			checkDecode(t, "not valid", plain(e), api.Entry{}, api.ErrEntry)
		}
	}
}

// fits reports whether the bytes of an entry say all of it.
func fits(e api.Entry) bool {
	c := e.Change
	return e.Kind == int(byte(e.Kind)) && e.Tx == int(uint32(e.Tx)) && c.Page == int(uint32(c.Page)) && c.Slot == int(byte(c.Slot)) &&
		fitsCell(c.Before) && fitsCell(c.After)
}

// fitsCell reports whether the bytes of a cell say all of it.
func fitsCell(c api.Cell) bool { return len(c.Data) <= 12 && (c.Set || c.Data == "") }

// TestEncodeErrorsWhatFits checks that there are entries that are not valid, though their bytes say all of them, in each of their parts.
func TestEncodeErrorsWhatFits(t *testing.T) {
	n := 0
	for _, e := range badEntries() {
		if fits(e) {
			n++
		}
	}
	if n < 150 {
		t.Errorf("only %d entries", n)
	}
}

// TestDecodeShort checks P5.2: bytes that end too early, at each byte.
func TestDecodeShort(t *testing.T) {
	for _, e := range goodEntries() {
		s := plain(e)
		step := 1 + len(s)/300
		for end := 0; end < len(s); end += step {
			checkDecode(t, "cut", s[:end], api.Entry{}, api.ErrShort)
		}
		checkDecode(t, "the last byte is missing", s[:len(s)-1], api.Entry{}, api.ErrShort)
	}
	note := plain(api.Entry{LSN: 1, Kind: api.EntryNote})
	for _, length := range []string{"\x01\x00\x00\x00", "\x00\x00\x00\x80", "\xff\xff\xff\xff", "\x00\x00\x01\x00"} {
		checkDecode(t, "blob is missing", note[:44]+length, api.Entry{}, api.ErrShort)
	}
	checkDecode(t, "blob is too short", note[:44]+"\x03\x00\x00\x00ab", api.Entry{}, api.ErrShort)
}

// TestDecodeMore checks P5.2: bytes that follow are refused, whatever they are, before the entry is looked at.
func TestDecodeMore(t *testing.T) {
	for _, e := range append(goodEntries(), badEntries()...) {
		if !fits(e) {
			continue
		}
		for _, more := range []string{"\x00", "x", "\xff\xff", plain(e)} {
			checkDecode(t, "bytes follow", plain(e)+more, api.Entry{}, api.ErrForm)
		}
	}
}

// TestDecodeCells checks P5.2: each byte that a cell may begin with, in both cells, with enough data behind it.
func TestDecodeCells(t *testing.T) {
	head := plain(api.Entry{LSN: 9, Kind: api.EntryChange, Tx: 2, Change: hello})[:42]
	const end = "\x00\x00\x00\x00"
	for n := range 256 {
		b := string([]byte{byte(n)})
		data := strings.Repeat("d", n)
		want := api.Entry{LSN: 9, Kind: api.EntryChange, Tx: 2, Change: api.Change{Page: 3, Slot: 2}}
		before, after := want, want
		e := api.OK
		switch {
		case n == 255:
			data = ""
		case n > 12:
			before, after, e = api.Entry{}, api.Entry{}, api.ErrForm
		default:
			before.Change.Before, after.Change.After = set(data), set(data)
		}
		checkDecode(t, "before", head+b+data+"\xff"+end, before, e)
		checkDecode(t, "after", head+"\xff"+b+data+end, after, e)
		if n > 12 && n < 255 {
			checkDecode(t, "before, nothing behind it", head+b, api.Entry{}, api.ErrForm)
			checkDecode(t, "after, nothing behind it", head+"\xff"+b, api.Entry{}, api.ErrForm)
		}
	}
}

// TestDecodeOrder checks P5.2: the first error from the front, then bytes that follow, then the entry.
func TestDecodeOrder(t *testing.T) {
	head := plain(api.Entry{LSN: 9, Kind: api.EntryChange, Tx: 2, Change: hello})[:42]
	none := plain(api.Entry{})[:42]
	const end = "\x00\x00\x00\x00"
	for _, c := range []struct {
		name, s string
		want    api.Errno
	}{
		{"a bad cell before too few bytes", head + "\x0d" + "abc", api.ErrForm},
		{"two bad cells", head + "\x0d\x0d", api.ErrForm},
		{"a cell that is cut before a bad one", head + "\x0cabc\x0d", api.ErrShort},
		{"a good cell before a bad one", head + "\x01a\xfe", api.ErrForm},
		{"a bad cell behind a good one, blob cut", head + "\xff\x0d\x00", api.ErrForm},
		{"blob cut behind good cells", head + "\xff\xff\x02\x00\x00\x00x", api.ErrShort},
		{"no entry, cut", none + "\xff\xff\x02\x00\x00\x00x", api.ErrShort},
		{"no entry, a bad cell", none + "\xff\x80" + end, api.ErrForm},
		{"no entry, bytes follow", none + "\xff\xff" + end + "x", api.ErrForm},
		{"no entry", none + "\xff\xff" + end, api.ErrEntry},
		{"a bad cell, bytes follow", head + "\xff\x0d" + strings.Repeat("x", 100), api.ErrForm},
		{"nothing", "", api.ErrShort},
		{"zeros", strings.Repeat("\x00", 48), api.ErrEntry},
		{"one zero less", strings.Repeat("\x00", 47), api.ErrShort},
		{"one zero more", strings.Repeat("\x00", 49), api.ErrForm},
	} {
		checkDecode(t, c.name, c.s, api.Entry{}, c.want)
	}
}

// TestDecodeNumbers checks P5.2: numbers of 8 bytes have a sign, the others have none.
func TestDecodeNumbers(t *testing.T) {
	for _, e := range samples() {
		for _, n := range []int{-1, math.MinInt64, math.MaxInt64, api.MaxLSN + 1} {
			checkDecode(t, "LSN", plain(with(e, func(e *api.Entry) { e.LSN = n })), api.Entry{}, api.ErrEntry)
			checkDecode(t, "PrevTx", plain(with(e, func(e *api.Entry) { e.PrevTx = n })), api.Entry{}, api.ErrEntry)
			checkDecode(t, "PrevPage", plain(with(e, func(e *api.Entry) { e.PrevPage = n })), api.Entry{}, api.ErrEntry)
			checkDecode(t, "Ref", plain(with(e, func(e *api.Entry) { e.Ref = n })), api.Entry{}, api.ErrEntry)
		}
		for _, n := range []int{api.MaxTx + 1, 1 << 31, 1<<32 - 1} {
			checkDecode(t, "Tx", plain(with(e, func(e *api.Entry) { e.Tx = n })), api.Entry{}, api.ErrEntry)
			checkDecode(t, "Page", plain(with(e, func(e *api.Entry) { e.Change.Page = n })), api.Entry{}, api.ErrEntry)
		}
		for _, n := range []int{16, 128, 255} {
			checkDecode(t, "Slot", plain(with(e, func(e *api.Entry) { e.Change.Slot = n })), api.Entry{}, api.ErrEntry)
		}
	}
}

// TestDecodeOnly checks the chapter's consequence: each byte changed in all ways makes other bytes of another entry, or no bytes of an entry.
func TestDecodeOnly(t *testing.T) {
	for _, e := range goodEntries() {
		s := plain(e)
		for at := range min(len(s), 100) {
			for n := range 256 {
				checkOnly(t, s[:at]+string([]byte{byte(n)})+s[at+1:])
			}
		}
	}
}

// checkOnly checks that s is what Encode returns for what Decode returns, or no entry.
func checkOnly(t *testing.T, s string) {
	t.Helper()
	e, err := Decode(s)
	if err != api.OK {
		if e != (api.Entry{}) {
			t.Errorf("Decode(%q): %+v with the error %d", s, e, err)
		}
		return
	}
	if !Valid(e) {
		t.Errorf("Decode(%q) is not valid: %+v", s, e)
	}
	if again, err := Encode(e); again != s || err != api.OK {
		t.Errorf("Encode of Decode(%q): %q, %d", s, again, err)
	}
}

// TestRandom checks P5.1 and P5.2 with random entries: those that are valid, and only those, come back.
func TestRandom(t *testing.T) {
	r := rand.New(rand.NewSource(5))
	valid := 0
	for range 50000 {
		e := randomEntry(r)
		s, err := Encode(e)
		if !Valid(e) {
			if s != "" || err != api.ErrEntry {
				t.Errorf("Encode(%+v): %q, %d", e, s, err)
			}
			continue
		}
		valid++
		if s != plain(e) || err != api.OK {
			t.Errorf("Encode(%+v): %q, %d", e, s, err)
		}
		checkDecode(t, "random", s, e, api.OK)
	}
	if valid < 5000 {
		t.Errorf("only %d of the entries are valid", valid)
	}
}

// randomEntry returns an entry whose fields are often what its kind says.
func randomEntry(r *rand.Rand) api.Entry {
	e := samples()[r.Intn(8)]
	e.LSN = 1 + r.Intn(20)
	for _, field := range []*int{&e.PrevTx, &e.PrevPage, &e.Ref} {
		if *field != 0 || r.Intn(10) == 0 {
			*field = r.Intn(12)
		}
	}
	if hasTx(e) || r.Intn(10) == 0 {
		e.Tx = r.Intn(4)
	}
	if hasChange(e) || r.Intn(10) == 0 {
		e.Change = api.Change{Page: r.Intn(66), Slot: r.Intn(17), Before: randomCell(r), After: randomCell(r)}
	}
	return e
}

// randomCell returns a cell with up to 12 bytes, or one that is not set.
func randomCell(r *rand.Rand) api.Cell {
	b := make([]byte, r.Intn(13))
	r.Read(b)
	return []api.Cell{{}, {Set: true}, {Set: true, Data: string(b)}}[r.Intn(3)]
}

// FuzzDecode checks P5.2: whatever the bytes are, they are those that Encode returns, or refused.
func FuzzDecode(f *testing.F) {
	for _, e := range samples() {
		f.Add(plain(e))
	}
	f.Fuzz(func(t *testing.T, s string) { checkOnly(t, s) })
}
