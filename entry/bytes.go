package entry

import (
	"pagemend/api"
	"pagemend/codec"
)

// Numbers of bytes.
const (
	lsnSize  = 8 // of LSN, PrevTx, PrevPage and Ref
	kindSize = 1
	txSize   = 4
	pageSize = 4
	slotSize = 1
	cellSize = 1 // of the byte before the data of a cell
	blobSize = 4 // of the length of Blob
)

// notSet is the byte of a cell that is not set.
const notSet = 255

// Encode returns the bytes of an entry.
func Encode(e api.Entry) (string, api.Errno) {
	if !Valid(e) {
		return "", api.ErrEntry
	}
	return write(e), api.OK
}

// write returns the bytes of a valid entry.
func write(e api.Entry) string {
	s := codec.Put("", e.LSN, lsnSize)
	s = codec.Put(s, e.Kind, kindSize)
	s = codec.Put(s, e.Tx, txSize)
	s = codec.Put(s, e.PrevTx, lsnSize)
	s = codec.Put(s, e.PrevPage, lsnSize)
	s = codec.Put(s, e.Ref, lsnSize)
	s = codec.Put(s, e.Change.Page, pageSize)
	s = codec.Put(s, e.Change.Slot, slotSize)
	s = writeCell(s, e.Change.Before)
	s = writeCell(s, e.Change.After)
	return codec.Put(s, len(e.Blob), blobSize) + e.Blob
}

// writeCell returns s with a cell behind it.
func writeCell(s string, c api.Cell) string {
	if !c.Set {
		return codec.Put(s, notSet, cellSize)
	}
	return codec.Put(s, len(c.Data), cellSize) + c.Data
}

// Decode returns the entry with these bytes.
func Decode(s string) (api.Entry, api.Errno) {
	r := reader{s: s}
	e := r.entry()
	switch {
	case r.err != api.OK:
		return api.Entry{}, r.err
	case r.at < len(s):
		return api.Entry{}, api.ErrForm
	case !Valid(e):
		return api.Entry{}, api.ErrEntry
	}
	return e, api.OK
}

// reader reads what bytes say from the front; behind its first error it reads nothing but zero values.
type reader struct {
	s   string
	at  int
	err api.Errno
}

// entry reads an entry; Go evaluates the calls from the first field to the last one.
func (r *reader) entry() api.Entry {
	return api.Entry{
		LSN:      r.number(lsnSize),
		Kind:     r.number(kindSize),
		Tx:       r.number(txSize),
		PrevTx:   r.number(lsnSize),
		PrevPage: r.number(lsnSize),
		Ref:      r.number(lsnSize),
		Change:   r.change(),
		Blob:     r.text(r.number(blobSize)),
	}
}

// change reads a change.
func (r *reader) change() api.Change {
	return api.Change{
		Page:   r.number(pageSize),
		Slot:   r.number(slotSize),
		Before: r.cell(),
		After:  r.cell(),
	}
}

// cell reads a cell.
func (r *reader) cell() api.Cell {
	size := r.number(cellSize)
	switch {
	case r.err != api.OK || size == notSet:
		return api.Cell{}
	case size > api.MaxData:
		r.err = api.ErrForm
		return api.Cell{}
	}
	return api.Cell{Set: true, Data: r.text(size)}
}

// number reads a number with size bytes.
func (r *reader) number(size int) int {
	if r.err != api.OK {
		return 0
	}
	n, e := codec.Get(r.s, r.at, size)
	if e != api.OK {
		r.err = e
		return 0
	}
	r.at += size
	return n
}

// text reads size bytes.
func (r *reader) text(size int) string {
	if r.err != api.OK {
		return ""
	}
	if size > len(r.s)-r.at {
		r.err = api.ErrShort
		return ""
	}
	from := r.at
	r.at += size
	return r.s[from:r.at]
}
