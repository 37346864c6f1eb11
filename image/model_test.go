package image_test

import (
	"plover/api"
	"plover/block"
)

// content is a segment's.
type content struct {
	rows  []api.Row
	lists []api.List
}

// modelLess tells whether a text stands ahead of another one, byte by byte.
func modelLess(a, b string) bool {
	for i := range len(b) {
		if i == len(a) || a[i] != b[i] {
			return i == len(a) || a[i] < b[i]
		}
	}
	return false
}

// modelMay goes over a content with the chapter's words for one that may be.
func modelMay(c content) bool {
	if len(c.rows) > 64 || len(c.lists) > 256 {
		return false
	}
	for i, l := range c.lists {
		if i > 0 && !modelLess(c.lists[i-1].Key, l.Key) {
			return false
		}
		if l.Record < 1 || l.Record > 65535 || len(l.Entries) == 0 {
			return false
		}
		if _, err := block.Encode(l.Entries); err != api.OK {
			return false
		}
		for _, e := range l.Entries {
			if e.Doc >= len(c.rows) {
				return false
			}
		}
	}
	return true
}

// told is what an image tells of a list, and the list's own cells.
type told struct {
	record uint32
	own    []uint32
}

// laid is an image at an address, whether it may be or not: the lists' own cells first, for their addresses.
func laid(at int, rows []api.Row, lists []told) []uint32 {
	begins := 2 + 4*len(rows) + 2*len(lists)
	var own, heads []uint32
	for _, l := range lists {
		heads = append(heads, l.record, uint32(at+begins+len(own)))
		own = append(own, l.own...)
	}
	cells := []uint32{uint32(len(rows)) + 1, uint32(len(lists))}
	for _, r := range rows {
		cells = append(cells, r.Birth)
		cells = append(cells, r.Id)
		cells = append(cells, r.Length)
		cells = append(cells, r.Tomb)
	}
	return append(append(cells, heads...), own...)
}

// tell is what an image tells of lists; of one that may not be by chapter 13 no cells of its own.
func tell(lists []api.List) []told {
	var all []told
	for _, l := range lists {
		own, _ := block.Encode(l.Entries)
		all = append(all, told{uint32(l.Record), own})
	}
	return all
}

func modelMake(at int, c content) ([]uint32, api.Errno) {
	if at < 0 || at > 65536 || !modelMay(c) {
		return nil, api.ErrArg
	}
	return laid(at, c.rows, tell(c.lists)), api.OK
}

// model reads cells one by one, and is off where one of the chapter's words doesn't hold; nothing is made again.
type model struct {
	cells []uint32
	next  int
	off   bool
}

// need is off where something doesn't hold.
func (m *model) need(holds bool) {
	m.off = m.off || !holds
}

// cell is the next one, from least to greatest.
func (m *model) cell(least, greatest uint32) uint32 {
	m.need(m.next < len(m.cells))
	if m.off {
		return 0
	}
	x := m.cells[m.next]
	m.next++
	m.need(x >= least && x <= greatest)
	return x
}

// number is the one whose bytes (layer 8) begin at a byte of cells, and the byte behind it; at the end, whatever it is, it is behind all.
func number(cells []uint32, at int) (n, next int) {
	for weight := 1; at < 4*len(cells) && weight < 1<<35; weight *= 128 {
		x := int(cells[at/4] >> (8 * (at % 4)) % 256)
		at++
		n += x % 128 * weight
		if x < 128 {
			return n, at
		}
	}
	return 0, 4*len(cells) + 1
}

// long is how many cells a list (layer 13) has that begins there: going by how many entries and places it tells, it can end but at one.
func long(cells []uint32) int {
	if len(cells) == 0 || cells[0] > 64 {
		return len(cells) + 1
	}
	n := int(cells[0])
	at := 4 * (1 + (n+3)/4)
	for range n {
		_, at = number(cells, at)
		count := 0
		count, at = number(cells, at)
		for k := 0; k < count && k < 256; k++ {
			_, at = number(cells, at)
		}
	}
	return (at + 3) / 4
}

// entries are those of the list of a segment with so many rows whose cells come next.
func (m *model) entries(rows int) []api.Entry {
	if m.off {
		return nil
	}
	n := long(m.cells[m.next:])
	if m.need(n <= len(m.cells)-m.next); m.off {
		return nil
	}
	l, err := block.Decode(m.cells[m.next : m.next+n])
	m.next += n
	m.need(err == api.OK && len(l) > 0)
	for _, e := range l {
		m.need(e.Doc < rows)
	}
	return l
}

func modelRead(at int, cells []uint32) (content, api.Errno) {
	if at < 0 || at > 65536 {
		return content{}, api.ErrForm
	}
	const all = 1<<32 - 1
	m := &model{cells: cells}
	rows, lists := int(m.cell(1, 65)), int(m.cell(0, 256))
	var c content
	for i := 1; i < rows && !m.off; i++ {
		c.rows = append(c.rows, api.Row{Birth: m.cell(0, all), Id: m.cell(0, all), Length: m.cell(0, all), Tomb: m.cell(0, all)})
	}
	var addresses []int
	for i := 0; i < lists && !m.off; i++ {
		c.lists = append(c.lists, api.List{Record: int(m.cell(1, 65535))})
		addresses = append(addresses, int(m.cell(0, all)))
	}
	for i, a := range addresses {
		m.need(a == at+m.next)
		c.lists[i].Entries = m.entries(rows - 1)
	}
	m.need(m.next == len(cells))
	if m.off {
		return content{}, api.ErrForm
	}
	return c, api.OK
}
