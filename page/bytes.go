package page

import (
	"strings"

	"pagemend/api"
	"pagemend/codec"
)

// How many bytes the parts of a page have, and where they begin.
const (
	lsnSize   = 8
	idSize    = 4
	countSize = 1
	sumSize   = 4
	cellSize  = countSize + api.MaxData

	idAt    = lsnSize
	cellsAt = idAt + idSize
	sumAt   = lastAt - sumSize
	lastAt  = api.PageSize - lsnSize // the LSN again
)

// notSet is the count of a cell that is not set.
const notSet = 255

// Blank returns the bytes of a page that was never written.
func Blank() string { return strings.Repeat("\x00", api.PageSize) }

// builder gathers the bytes of a page.
type builder struct{ bytes []byte }

// number adds the lowest size bytes of n.
func (b *builder) number(n, size int) {
	b.bytes = append(b.bytes, codec.Put("", n, size)...)
}

// fill adds bytes 0 until there are size.
func (b *builder) fill(size int) {
	for len(b.bytes) < size {
		b.bytes = append(b.bytes, 0)
	}
}

// cell adds a cell that is valid.
func (b *builder) cell(c api.Cell) {
	end := len(b.bytes) + cellSize
	count := notSet
	if c.Set {
		count = len(c.Data)
	}
	b.number(count, countSize)
	b.bytes = append(b.bytes, c.Data...)
	b.fill(end)
}

// writeCells hands the cells to add, one after the other.
func writeCells(cells [api.Slots]api.Cell, add func(api.Cell)) {
	for _, c := range cells {
		add(c)
	}
}

// write returns the bytes of a page that is valid.
func write(p api.Page) string {
	b := &builder{}
	b.number(p.LSN, lsnSize)
	b.number(p.ID, idSize)
	writeCells(p.Cells, b.cell)
	b.fill(sumAt)
	b.number(int(codec.Sum(string(b.bytes))), sumSize)
	b.number(p.LSN, lsnSize) // behind all others, so that a page that is torn has two LSNs
	return string(b.bytes)
}

// read returns what the bytes of a page say, be it valid or not.
func read(s string) api.Page {
	p := api.Page{ID: number(s, idAt, idSize), LSN: number(s, 0, lsnSize)}
	for i := range p.Cells {
		from := cellsAt + i*cellSize
		p.Cells[i] = readCell(s[from : from+cellSize])
	}
	return p
}

// readCell returns the cell with these bytes; of a count that is too great, as much data as there is.
func readCell(s string) api.Cell {
	count := number(s, 0, countSize)
	if count == notSet {
		return api.Cell{}
	}
	data := s[countSize:]
	return api.Cell{Set: true, Data: data[:min(count, len(data))]}
}

// number returns the number in the size bytes of s from the index at on; they are there.
func number(s string, at, size int) int {
	n, _ := codec.Get(s, at, size)
	return n
}
