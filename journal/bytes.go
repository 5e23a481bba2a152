package journal

import (
	"strings"

	"pagemend/api"
	"pagemend/codec"
	"pagemend/entry"
)

// The payload of the head: what tells that bytes are those of a log, and First.
const (
	mark      = "PMLG"
	firstSize = 8
)

// Bytes returns the bytes of a log; an empty string if it is not valid.
func Bytes(l api.Log) string {
	if !Valid(l) {
		return ""
	}
	return codec.Frame(headOf(l.First)) + writeEntries(l.Entries)
}

// Crash returns what a crash leaves of a log: what is durable, and the first torn bytes of the rest; an empty string if it is not valid.
func Crash(l api.Log, torn int) string {
	if !Valid(l) {
		return ""
	}
	durable := l.Durable - l.First + 1
	rest := writeEntries(l.Entries[durable:])
	return codec.Frame(headOf(l.First)) + writeEntries(l.Entries[:durable]) + rest[:min(max(torn, 0), len(rest))]
}

// headOf returns the payload of the head of a log that begins with the number first.
func headOf(first int) string { return codec.Put(mark, first, firstSize) }

// writeEntries returns the bytes of entries that are valid.
func writeEntries(entries []api.Entry) string {
	var b strings.Builder
	for _, e := range entries {
		s, _ := entry.Encode(e)
		b.WriteString(codec.Frame(s))
	}
	return b.String()
}

// Open returns the log that stands in s, up to what a crash has left of the rest; what is there is durable.
func Open(s string) (api.Log, api.Errno) {
	next := frames(s)
	first, ok := readHead(next)
	if !ok {
		return api.Log{}, api.ErrForm
	}
	l := api.Log{First: first, Entries: readEntries(next, first)}
	l.Durable = lastNumber(l)
	return l, api.OK
}

// frames returns a function that hands out the payloads of the frames of s, one after the other, and none from the first frame on that is not whole.
func frames(s string) func() (payload string, ok bool) {
	at := 0
	return func() (string, bool) {
		payload, next, e := codec.Unframe(s, at)
		if e != api.OK {
			return "", false
		}
		at = next
		return payload, true
	}
}

// readHead returns the First of the head that is next.
func readHead(next func() (string, bool)) (first int, ok bool) {
	payload, _ := next() // without a frame it is empty, and no head
	first, e := codec.Get(payload, len(mark), firstSize)
	if e != api.OK || !validFirst(first) || payload != headOf(first) {
		return 0, false
	}
	return first, true
}

// readEntries returns the entries that are next, as long as they are right and their numbers follow each other from first on.
func readEntries(next func() (string, bool), first int) []api.Entry {
	var entries []api.Entry
	for len(entries) < api.MaxEntries {
		payload, ok := next()
		if !ok {
			break
		}
		e, err := entry.Decode(payload)
		if err != api.OK || e.LSN != first+len(entries) {
			break
		}
		entries = append(entries, e)
	}
	return entries
}
