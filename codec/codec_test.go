package codec

import (
	"hash/crc32"
	"math"
	"strings"
	"testing"

	"pagemend/api"
)

// text returns n bytes that are not all alike.
func text(n int) string {
	b := make([]byte, n)
	for i := range b {
		b[i] = byte(i*i*7 + i>>3)
	}
	return string(b)
}

// flip returns s with the byte at the index i changed by mask.
func flip(s string, i int, mask byte) string {
	b := []byte(s)
	b[i] ^= mask
	return string(b)
}

// TestPut checks P1.1: which bytes Put appends.
func TestPut(t *testing.T) {
	for _, c := range []struct {
		s       string
		n, size int
		want    string
	}{
		{"", 0, 1, "\x00"},
		{"", 255, 1, "\xff"},
		{"", 256, 1, "\x00"},
		{"ab", 0x010203, 3, "ab\x03\x02\x01"},
		{"", 0x010203, 2, "\x03\x02"},
		{"", 0x0102030405060708, 8, "\x08\x07\x06\x05\x04\x03\x02\x01"},
		{"", 0x0102030405060708, 7, "\x08\x07\x06\x05\x04\x03\x02"},
		{"", 5, 8, "\x05\x00\x00\x00\x00\x00\x00\x00"},
		{"", -1, 8, "\xff\xff\xff\xff\xff\xff\xff\xff"},
		{"", -2, 1, "\xfe"},
		{"", -256, 2, "\x00\xff"},
		{"", math.MinInt64, 8, "\x00\x00\x00\x00\x00\x00\x00\x80"},
		{"", math.MaxInt64, 8, "\xff\xff\xff\xff\xff\xff\xff\x7f"},
		{"ab", 5, 0, "ab"},
		{"ab", 5, 9, "ab"},
		{"ab", 5, -1, "ab"},
		{"ab", 5, math.MinInt64, "ab"},
		{"ab", 5, math.MaxInt64, "ab"},
	} {
		if got := Put(c.s, c.n, c.size); got != c.want {
			t.Errorf("Put(%q, %d, %d) = %q, want %q", c.s, c.n, c.size, got, c.want)
		}
	}
}

// TestGet checks P1.1: which number Get reads, and its errors in their order.
func TestGet(t *testing.T) {
	eight := "\xff\xff\xff\xff\xff\xff\xff\xff"
	for _, c := range []struct {
		s        string
		at, size int
		n        int
		e        api.Errno
	}{
		{"\x01\x02\x03", 0, 1, 1, api.OK},
		{"\x01\x02\x03", 1, 2, 0x0302, api.OK},
		{"\x01\x02\x03", 0, 3, 0x030201, api.OK},
		{"\x80", 0, 1, 128, api.OK},
		{eight, 0, 4, 1<<32 - 1, api.OK},
		{eight, 1, 7, 1<<56 - 1, api.OK},
		{eight, 0, 8, -1, api.OK},
		{"\x00\x00\x00\x00\x00\x00\x00\x80", 0, 8, math.MinInt64, api.OK},
		{eight, 0, 0, 0, api.ErrRange},
		{eight, 0, 9, 0, api.ErrRange},
		{eight, 0, -1, 0, api.ErrRange},
		{eight, 0, math.MinInt64, 0, api.ErrRange},
		{eight, 0, math.MaxInt64, 0, api.ErrRange},
		{eight, -1, 1, 0, api.ErrRange},
		{eight, math.MinInt64, 1, 0, api.ErrRange},
		{"", 0, 9, 0, api.ErrRange},
		{"", -1, 1, 0, api.ErrRange},
		{"", 0, 1, 0, api.ErrShort},
		{eight, 1, 8, 0, api.ErrShort},
		{eight, 8, 1, 0, api.ErrShort},
		{eight, 9, 1, 0, api.ErrShort},
		{eight, math.MaxInt64, 8, 0, api.ErrShort},
		{"\x01", 0, 2, 0, api.ErrShort},
	} {
		n, e := Get(c.s, c.at, c.size)
		if n != c.n || e != c.e {
			t.Errorf("Get(%q, %d, %d) = %d, %d, want %d, %d", c.s, c.at, c.size, n, e, c.n, c.e)
		}
	}
}

// TestNumbersReturn checks the consequence of P1.1: what was put is got modulo 2^(8 size).
func TestNumbersReturn(t *testing.T) {
	for _, n := range []int{0, 1, 127, 128, 255, 256, 65535, 1 << 31, 1<<40 - 1, 1 << 56, math.MaxInt64, -1, -128, -300, -1 << 40, math.MinInt64} {
		for size := 1; size <= 8; size++ {
			want := n
			if size < 8 {
				want = n & (1<<(8*size) - 1)
			}
			s := Put("head", n, size) + "tail"
			got, e := Get(s, 4, size)
			if got != want || e != api.OK {
				t.Errorf("%d in %d bytes returns as %d, %d, want %d", n, size, got, e, want)
			}
		}
	}
}

// TestSum checks P1.2 with values that are known.
func TestSum(t *testing.T) {
	for _, c := range []struct {
		s    string
		want uint32
	}{
		{"", 0},
		{"a", 0xC1D04330},
		{"123456789", 0xE3069283},
		{strings.Repeat("\x00", 32), 0x8A9136AA},
		{strings.Repeat("\xff", 32), 0x62A8AB43},
	} {
		if got := Sum(c.s); got != c.want {
			t.Errorf("Sum(%q) = %#x, want %#x", c.s, got, c.want)
		}
	}
}

// TestSumOfAllBytes checks P1.2 against the library: each byte, and all lengths of a page.
func TestSumOfAllBytes(t *testing.T) {
	table := crc32.MakeTable(crc32.Castagnoli)
	check := func(s string) {
		t.Helper()
		if got, want := Sum(s), crc32.Checksum([]byte(s), table); got != want {
			t.Errorf("Sum(%q) = %#x, want %#x", s, got, want)
		}
	}
	for b := range 256 {
		check(string([]byte{byte(b)}))
	}
	for n := range api.PageSize + 1 {
		check(text(n))
	}
	check(text(maxPayload))
}

// TestRemainders checks each remainder against a division bit by bit.
func TestRemainders(t *testing.T) {
	for i, r := range remainders {
		want := uint32(i)
		for range 4 {
			if want&1 == 1 {
				want = want>>1 ^ 0x82F63B78
			} else {
				want >>= 1
			}
		}
		if r != want {
			t.Errorf("remainder of %d: %#x, want %#x", i, r, want)
		}
	}
}

// TestFrame checks P1.3: length, payload, checksum of both, and the longest payload.
func TestFrame(t *testing.T) {
	for _, n := range []int{0, 1, 2, 255, 256, 8191, api.MaxBlob, api.MaxBlob + 199, api.MaxBlob + 200} {
		p := text(n)
		f := Frame(p)
		if len(f) != n+8 {
			t.Fatalf("frame of %d bytes has %d", n, len(f))
		}
		head := string([]byte{byte(n), byte(n >> 8), 0, 0})
		if f[:4] != head || f[4:4+n] != p {
			t.Errorf("frame of %d bytes: wrong length or payload", n)
		}
		c := crc32.Checksum([]byte(head+p), crc32.MakeTable(crc32.Castagnoli))
		if f[4+n:] != string([]byte{byte(c), byte(c >> 8), byte(c >> 16), byte(c >> 24)}) {
			t.Errorf("frame of %d bytes: wrong checksum", n)
		}
	}
	for _, n := range []int{api.MaxBlob + 201, api.MaxBlob + 202, 1 << 17} {
		if f := Frame(text(n)); f != "" {
			t.Errorf("payload of %d bytes has a frame", n)
		}
	}
}

// checkUnframe checks all results of Unframe.
func checkUnframe(t *testing.T, s string, at int, payload string, next int, e api.Errno) {
	t.Helper()
	p, n, err := Unframe(s, at)
	if p != payload || n != next || err != e {
		t.Errorf("Unframe of %d bytes at %d: %d bytes, %d, %d, want %d bytes, %d, %d", len(s), at, len(p), n, err, len(payload), next, e)
	}
}

// TestUnframe checks P1.4: payloads of all kinds of lengths, alone and one behind the other.
func TestUnframe(t *testing.T) {
	s := "head"
	for _, n := range []int{0, 1, 7, 300, api.MaxBlob + 200} {
		checkUnframe(t, Frame(text(n)), 0, text(n), n+8, api.OK)
		at := len(s)
		s += Frame(text(n))
		checkUnframe(t, s, at, text(n), len(s), api.OK)
		checkUnframe(t, s+"tail", at, text(n), len(s), api.OK)
	}
}

// TestUnframeErrors checks P1.4: each error, and which one comes first.
func TestUnframeErrors(t *testing.T) {
	f := Frame("abc")
	for _, at := range []int{-1, math.MinInt64, len(f) + 1, math.MaxInt64} {
		checkUnframe(t, f, at, "", 0, api.ErrRange)
	}
	checkUnframe(t, "", 1, "", 0, api.ErrRange)
	checkUnframe(t, "", 0, "", 0, api.ErrShort)
	checkUnframe(t, f, len(f), "", 0, api.ErrShort)
	checkUnframe(t, "\xff\xff\xff", 0, "", 0, api.ErrShort)
	checkUnframe(t, "\xff\xff\xff\xff", 0, "", 0, api.ErrSize)
	checkUnframe(t, Put("", maxPayload, 4), 0, "", 0, api.ErrShort)
	checkUnframe(t, Put("", maxPayload+1, 4), 0, "", 0, api.ErrSize)
	long := Put("", maxPayload+1, 4) + text(maxPayload+1)
	checkUnframe(t, Put(long, int(Sum(long)), 4), 0, "", 0, api.ErrSize)
	checkUnframe(t, Put("", 0, 4), 0, "", 0, api.ErrShort)
	checkUnframe(t, Put("", 0, 8), 0, "", 0, api.ErrSum)
	checkUnframe(t, Put(Put("", 0, 4), int(Sum("")), 4), 0, "", 0, api.ErrSum) // the sum covers the length too
}

// TestFramesShort checks a consequence: a frame from which bytes at the end are missing is short, also one with a wrong sum.
func TestFramesShort(t *testing.T) {
	for _, n := range []int{0, 1, 20, 300} {
		f := Frame(text(n))
		for k := range f {
			checkUnframe(t, f[:k], 0, "", 0, api.ErrShort)
			checkUnframe(t, "xy"+f[:k], 2, "", 0, api.ErrShort)
		}
	}
	checkUnframe(t, flip(Frame("abc"), 5, 1)[:10], 0, "", 0, api.ErrShort)
}

// TestFramesChanged checks a consequence: one changed byte of the payload or of the checksum makes the sum wrong.
func TestFramesChanged(t *testing.T) {
	f := Frame(text(40))
	for i := 4; i < len(f); i++ {
		for mask := 1; mask < 256; mask++ {
			checkUnframe(t, flip(f, i, byte(mask)), 0, "", 0, api.ErrSum)
		}
	}
	for i := range 4 { // a shorter length has another sum
		if p, next, e := Unframe(flip(f, i, 1)+text(70000), 0); p != "" || next != 0 || e == api.OK {
			t.Errorf("changed length is accepted: %d bytes, %d, %d", len(p), next, e)
		}
	}
}
