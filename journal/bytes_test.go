package journal

import (
	"encoding/binary"
	"hash/crc32"
	"math"
	"math/rand"
	"slices"
	"strings"
	"testing"

	"pagemend/api"
	"pagemend/entry"
)

// framed returns the frame of a payload as chapter 1 says it.
func framed(payload string) string {
	b := append(binary.LittleEndian.AppendUint32(nil, uint32(len(payload))), payload...)
	sum := crc32.Checksum(b, crc32.MakeTable(crc32.Castagnoli))
	return string(binary.LittleEndian.AppendUint32(b, sum))
}

// headBytes returns the bytes of the head, whether a log may begin with the number first or not.
func headBytes(first int) string {
	return framed("PMLG" + string(binary.LittleEndian.AppendUint64(nil, uint64(first))))
}

// frameOf returns the frame of a valid entry.
func frameOf(e api.Entry) string {
	s, _ := entry.Encode(e)
	return framed(s)
}

// plain returns the bytes of a log as the chapter lists them.
func plain(l api.Log) string {
	var b strings.Builder
	b.WriteString(headBytes(l.First))
	for _, e := range l.Entries {
		b.WriteString(frameOf(e))
	}
	return b.String()
}

// beginning returns the first entries of a log, all durable: what is found of it.
func beginning(l api.Log, count int) api.Log {
	return api.Log{First: l.First, Entries: l.Entries[:count], Durable: l.First - 1 + count}
}

// changed returns s with one byte changed.
func changed(s string, at int, mask byte) string {
	return s[:at] + string([]byte{s[at] ^ mask}) + s[at+1:]
}

// checkOpen checks what Open returns.
func checkOpen(t *testing.T, name, s string, want api.Log, wantError api.Errno) {
	t.Helper()
	l, e := Open(s)
	checkLog(t, name, l, e, want, wantError)
}

// TestBytes checks P6.5: the bytes of a log, from which Open makes it again, with everything durable.
func TestBytes(t *testing.T) {
	for _, l := range logs() {
		s := Bytes(l)
		if s != plain(l) {
			t.Errorf("Bytes of the %s: %.80q, want %.80q", show(l), s, plain(l))
		}
		checkOpen(t, "what Bytes returns", s, beginning(l, len(l.Entries)), api.OK)
	}
}

// TestBytesExample checks the chapter's example: a new log has the 20 bytes of its head.
func TestBytesExample(t *testing.T) {
	if s := Bytes(New()); len(s) != 20 || s[:16] != "\x0c\x00\x00\x00PMLG\x01\x00\x00\x00\x00\x00\x00\x00" {
		t.Errorf("new log: %q", s)
	}
	l, _, _ := Append(New(), api.Entry{Kind: api.EntryNote, Blob: "abc"})
	const noteBytes = "\x33\x00\x00\x00" + "\x01\x00\x00\x00\x00\x00\x00\x00\x08"
	if s := Bytes(l); len(s) != 20+4+51+4 || s[20:33] != noteBytes || s[68:75] != "\x03\x00\x00\x00abc" {
		t.Errorf("log with a note: %q", s)
	}
}

// TestBytesNot checks P6.5: a log that is not valid has no bytes.
func TestBytesNot(t *testing.T) {
	for _, l := range badLogs() {
		if s := Bytes(l); s != "" {
			t.Errorf("Bytes of the %s: %.80q", show(l), s)
		}
		for _, torn := range append(extremes, 0, 1, 100) {
			if s := Crash(l, torn); s != "" {
				t.Errorf("Crash of the %s with %d: %.80q", show(l), torn, s)
			}
		}
	}
}

// TestCrash checks P6.5: all that is durable stays, and as much of the rest as is said.
func TestCrash(t *testing.T) {
	for _, l := range logs() {
		all := plain(l)
		durable := len(plain(beginning(l, l.Durable-l.First+1)))
		rest := len(all) - durable
		torn := []int{math.MinInt64, -api.MaxLSN, -2, -1, 0, 1, 2, 3, 4, rest - 1, rest, rest + 1, api.MaxLSN, math.MaxInt64 - 1, math.MaxInt64}
		for n := 0; n < rest; n += 1 + rest/100 {
			torn = append(torn, n)
		}
		for _, n := range torn {
			want := all[:durable+min(max(n, 0), rest)]
			if s := Crash(l, n); s != want {
				t.Errorf("Crash of the %s with %d: %d bytes, want %d", show(l), n, len(s), len(want))
			}
		}
	}
}

// TestOpenCrash checks a consequence: behind a crash all durable entries are there, and those of the others that are whole.
func TestOpenCrash(t *testing.T) {
	for durable := range 9 {
		l := sample()
		l.Durable = 10 + durable
		count, end := durable, 0
		for torn := range 700 {
			for count < 8 && end+len(frameOf(l.Entries[count])) <= torn {
				end += len(frameOf(l.Entries[count]))
				count++
			}
			checkOpen(t, "behind a crash", Crash(l, torn), beginning(l, count), api.OK)
		}
		if count != 8 {
			t.Errorf("%d entries were found", count)
		}
	}
}

// TestOpenCut checks P6.6: bytes that end too early, at each byte.
func TestOpenCut(t *testing.T) {
	l := sample()
	s := plain(l)
	for end := range 20 {
		checkOpen(t, "the head is cut", s[:end], api.Log{}, api.ErrForm)
	}
	count := 0
	for end := 20; end <= len(s); end++ {
		if count < 8 && end == len(plain(beginning(l, count+1))) {
			count++
		}
		checkOpen(t, "cut", s[:end], beginning(l, count), api.OK)
	}
	if count != 8 {
		t.Errorf("%d entries were found", count)
	}
}

// TestOpenBehind checks P6.6: what follows the right entries is not looked at.
func TestOpenBehind(t *testing.T) {
	s := plain(sample())
	right, _ := entry.Encode(note(19))
	for name, more := range map[string]string{
		"a zero":                     "\x00",
		"zeros":                      strings.Repeat("\x00", 1000),
		"text":                       "no frame, however long it may be",
		"a length alone":             "\x01\x00\x00\x00",
		"the greatest length":        "\xff\xff\xff\xff",
		"an empty frame":             framed(""),
		"a head":                     headBytes(19),
		"another log":                plain(notes(19, 3, 0)),
		"an entry again":             frameOf(note(18)),
		"an entry too many":          frameOf(note(20)),
		"the first one":              frameOf(note(11)),
		"the least one":              frameOf(note(1)),
		"an entry that is not valid": framed(right[:8] + "\x09" + right[9:]),
		"an entry and a byte":        framed(right + "x"),
		"an entry without a byte":    framed(right[:len(right)-1]),
		"an entry with a wrong sum":  changed(framed(right), len(framed(right))-1, 1),
		"another entry with the sum": changed(framed(right), 8, 1),
	} {
		checkOpen(t, name, s+more, beginning(sample(), 8), api.OK)
		checkOpen(t, name+", and the right one", s+more+frameOf(note(19)), beginning(sample(), 8), api.OK)
		checkOpen(t, name+" behind a head", headBytes(19)+more+frameOf(note(19)), notes(19, 0, 0), api.OK)
	}
	checkOpen(t, "the right one", s+frameOf(note(19)), api.Log{First: 11, Entries: append(sample().Entries, note(19)), Durable: 19}, api.OK)
}

// TestOpenHead checks P6.6: each head that is not right, though entries follow.
func TestOpenHead(t *testing.T) {
	good := headBytes(1)
	for name, head := range map[string]string{
		"nothing":               "",
		"First 0":               headBytes(0),
		"First -1":              headBytes(-1),
		"First beyond":          headBytes(api.MaxLSN + 1),
		"the greatest First":    headBytes(math.MaxInt64),
		"the least First":       headBytes(math.MinInt64),
		"another mark":          framed("PMLH" + good[8:16]),
		"a small mark":          framed("pmlg" + good[8:16]),
		"no mark":               framed(good[8:16]),
		"no First":              framed("PMLG"),
		"an empty frame":        framed(""),
		"a short First":         framed("PMLG" + good[8:15]),
		"a byte more":           framed("PMLG" + good[8:16] + "\x00"),
		"a byte before":         framed("\x00PMLG" + good[8:16]),
		"the first bytes alone": good[:19],
		"a wrong sum":           changed(good, 19, 1),
		"not at the beginning":  "\x00" + good,
		"an entry":              frameOf(note(1)),
		"too great a length":    "\xff\xff\xff\xffPMLG" + good[8:],
	} {
		checkOpen(t, name, head, api.Log{}, api.ErrForm)
		checkOpen(t, name+", entries", head+frameOf(note(1)), api.Log{}, api.ErrForm)
		if head != "" {
			checkOpen(t, name+", a log", head+plain(notes(1, 2, 0)), api.Log{}, api.ErrForm)
		}
	}
	for _, first := range []int{1, 2, 255, 256, 1 << 39, api.MaxLSN - 1, api.MaxLSN} {
		checkOpen(t, "a head alone", headBytes(first), notes(first, 0, 0), api.OK)
	}
}

// TestOpenChanged checks P6.6: with a byte changed, the entries before it are found, and no others.
func TestOpenChanged(t *testing.T) {
	l := sample()
	s := plain(l)
	count, end := 0, 20
	for at := 0; at < len(s); at++ {
		if at == end+len(frameOf(l.Entries[count])) {
			end = at
			count++
		}
		want, e := beginning(l, count), api.OK
		if at < 20 {
			want, e = api.Log{}, api.ErrForm
		}
		for mask := 1; mask < 256; mask++ {
			checkOpen(t, "changed", changed(s, at, byte(mask)), want, e)
		}
	}
}

// TestOpenLimits checks P6.6: not more entries are read than a log may have, and none behind the greatest number.
func TestOpenLimits(t *testing.T) {
	for _, more := range []int{0, 1, 5} {
		s := plain(notes(3, api.MaxEntries+more, 0))
		checkOpen(t, "many entries", s, notes(3, api.MaxEntries, api.MaxEntries), api.OK)
	}
	checkOpen(t, "one less", plain(notes(3, api.MaxEntries-1, 0)), notes(3, api.MaxEntries-1, api.MaxEntries-1), api.OK)
	s, _ := entry.Encode(note(api.MaxLSN))
	behind := framed(string(binary.LittleEndian.AppendUint64(nil, api.MaxLSN+1)) + s[8:])
	checkOpen(t, "the greatest number", plain(notes(api.MaxLSN-1, 2, 0))+behind, notes(api.MaxLSN-1, 2, 2), api.OK)
	checkOpen(t, "the greatest number alone", plain(notes(api.MaxLSN, 1, 0)), notes(api.MaxLSN, 1, 1), api.OK)
}

// model is a log as a plain list: all entries that were ever given, of which those up to a number are durable, and those before another one are cut off.
type model struct {
	all            []api.Entry
	durable, first int
}

// log returns the log that the model says.
func (m model) log() api.Log {
	return api.Log{First: m.first, Entries: m.all[m.first-1:], Durable: m.durable}
}

// step does something at random to a log and to its model.
func (m *model) step(t *testing.T, r *rand.Rand, l api.Log) api.Log {
	last := len(m.all)
	switch r.Intn(6) {
	case 0:
		n := m.first - 2 + r.Intn(last-m.first+4)
		got, e := Force(l, n)
		if n > last {
			checkLog(t, "random Force", got, e, api.Log{}, api.ErrGone)
			return l
		}
		m.durable = max(m.durable, n)
		return got
	case 1:
		n := m.first - 1 + r.Intn(last-m.first+4)
		got, e := Cut(l, n)
		switch {
		case n < m.first || n > last+1:
			checkLog(t, "random Cut", got, e, api.Log{}, api.ErrRange)
			return l
		case n-1 > m.durable:
			checkLog(t, "random Cut", got, e, api.Log{}, api.ErrState)
			return l
		}
		m.first = n
		return got
	case 2:
		return m.crash(t, r, l)
	}
	return m.append(t, r, l)
}

// append adds an entry of any kind, which is not valid before the entries that it names.
func (m *model) append(t *testing.T, r *rand.Rand, l api.Log) api.Log {
	want := sample().Entries[r.Intn(8)]
	e := want
	want.LSN = len(m.all) + 1
	got, n, err := Append(l, e)
	if !entry.Valid(want) {
		checkLog(t, "random Append", got, err, api.Log{}, api.ErrEntry)
		return l
	}
	if n != want.LSN || err != api.OK {
		t.Fatalf("random Append: %d, %d", n, err)
	}
	m.all = append(m.all, want)
	return got
}

// crash lets the log end in a crash, and opens what is left.
func (m *model) crash(t *testing.T, r *rand.Rand, l api.Log) api.Log {
	torn := r.Intn(300) - 50
	left := torn
	for m.durable < len(m.all) && left >= len(frameOf(m.all[m.durable])) {
		left -= len(frameOf(m.all[m.durable]))
		m.durable++
	}
	m.all = m.all[:m.durable]
	got, e := Open(Crash(l, torn))
	if e != api.OK {
		t.Fatalf("random crash: %d", e)
	}
	return got
}

// TestRandom checks P6.2 to P6.7 with random scripts against a plain list.
func TestRandom(t *testing.T) {
	r := rand.New(rand.NewSource(6))
	for range 200 {
		m, l := &model{first: 1}, New()
		for range 200 {
			l = m.step(t, r, l)
			checkLog(t, "random", l, api.OK, m.log(), api.OK)
			n := m.first - 1 + r.Intn(len(m.all)-m.first+3)
			got, e := Get(l, n)
			if n < m.first || n > len(m.all) {
				if e != api.ErrGone {
					t.Fatalf("Get(%d) of the %s: %d", n, show(l), e)
				}
			} else if got != m.all[n-1] || e != api.OK {
				t.Fatalf("Get(%d) of the %s: %+v, %d", n, show(l), got, e)
			}
		}
		if s := Bytes(l); s != plain(m.log()) {
			t.Fatalf("Bytes of the %s: %q", show(l), s)
		}
	}
}

// FuzzOpen checks P6.6: whatever the bytes are, the log is the longest right beginning of them, or there is none.
func FuzzOpen(f *testing.F) {
	s := plain(sample())
	for _, end := range []int{0, 10, 20, 60, 100, len(s)} {
		f.Add(s[:end])
	}
	f.Fuzz(func(t *testing.T, s string) {
		l, e := Open(s)
		if e != api.OK {
			checkLog(t, "fuzz", l, e, api.Log{}, api.ErrForm)
			return
		}
		all := Bytes(l)
		if !strings.HasPrefix(s, all) || l.Durable != Last(l) {
			t.Fatalf("Open(%q): %s", s, show(l))
		}
		if len(l.Entries) == api.MaxEntries || Last(l) == api.MaxLSN {
			return
		}
		more := note(Last(l) + 1)
		got, e := Open(all + frameOf(more) + s[len(all):])
		if want := append(l.Entries, more); e != api.OK || len(got.Entries) < len(want) || !slices.Equal(got.Entries[:len(want)], want) {
			t.Fatalf("Open(%q) with an entry more: %s, %d", s, show(got), e)
		}
	})
}
