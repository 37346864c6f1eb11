package block_test

import "plover/api"

// modelMay goes over a list with the chapter's words for one that may be.
func modelMay(l []api.Entry) bool {
	if len(l) > 64 {
		return false
	}
	for i, e := range l {
		if e.Doc < 0 || e.Doc > 65535 || i > 0 && e.Doc <= l[i-1].Doc {
			return false
		}
		if len(e.Pos) == 0 || len(e.Pos) > 256 {
			return false
		}
		for k, p := range e.Pos {
			if p < 0 || p > 65535 || k > 0 && p <= e.Pos[k-1] {
				return false
			}
		}
	}
	return true
}

// modelNumber is a number's bytes (layer 8), the last ones by itself.
func modelNumber(n int) []byte {
	if n < 128 {
		return []byte{byte(n)}
	}
	return append([]byte{byte(128 + n%128)}, modelNumber(n/128)...)
}

// modelEntry is the bytes of the i-th entry of a list. Of a list that may not be, a number that is none wraps round.
func modelEntry(l []api.Entry, i int) []byte {
	number := func(n int) []byte { return modelNumber(int(uint32(n))) }
	e := l[i]
	b := number(e.Doc)
	if i%4 != 0 {
		b = number(e.Doc - l[i-1].Doc)
	}
	b = append(b, number(len(e.Pos))...)
	for k, p := range e.Pos {
		if k > 0 {
			p -= e.Pos[k-1]
		}
		b = append(b, number(p)...)
	}
	return b
}

// modelBytes is all bytes of a list, and where each block begins.
func modelBytes(l []api.Entry) (b []byte, begins []int) {
	for i := range l {
		if i%4 == 0 {
			begins = append(begins, len(b))
		}
		b = append(b, modelEntry(l, i)...)
	}
	return b, begins
}

// cellsOf is what bytes are as cells, those of the last one that are left being 0.
func cellsOf(b []byte) []uint32 {
	l := make([]uint32, (len(b)+3)/4)
	for i, x := range b {
		l[i/4] += uint32(x) << (8 * (i % 4))
	}
	return l
}

// laid is the cells of a list, whether it may be or not: the bytes first, and then which Doc is each block's last.
func laid(l []api.Entry) []uint32 {
	b, begins := modelBytes(l)
	cells := []uint32{uint32(len(l))}
	for k, at := range begins {
		last := min(4*k+3, len(l)-1)
		cells = append(cells, uint32(65536*l[last].Doc+at))
	}
	return append(cells, cellsOf(b)...)
}

func modelEncode(l []api.Entry) ([]uint32, api.Errno) {
	if !modelMay(l) {
		return nil, api.ErrArg
	}
	return laid(l), api.OK
}

// model reads cells word by word, and is off where one of the chapter's words doesn't hold; nothing is encoded again.
type model struct {
	heads, rest []uint32
	at          int
	off         bool
}

// need is off where something doesn't hold.
func (m *model) need(holds bool) {
	m.off = m.off || !holds
}

// one is the next byte.
func (m *model) one() int {
	m.need(m.at < 4*len(m.rest))
	if m.off {
		return 0
	}
	x := m.rest[m.at/4] >> (8 * (m.at % 4)) % 256
	m.at++
	return int(x)
}

// number is the next one, from least to greatest: at most 65535, and so of three bytes at most.
func (m *model) number(least, greatest int) int {
	n, weight := 0, 1
	for {
		x := m.one()
		n += x % 128 * weight
		if x < 128 {
			m.need(x > 0 || weight == 1)
			m.need(n >= least && n <= greatest)
			return n
		}
		weight *= 128
		if m.need(weight <= 16384); m.off {
			return 0
		}
	}
}

// entry is the i-th one of n; ahead is the Doc ahead of it, -1 of the first one.
func (m *model) entry(i, n, ahead int) api.Entry {
	var e api.Entry
	if i%4 == 0 {
		m.need(m.heads[i/4]%65536 == uint32(m.at))
		e.Doc = m.number(ahead+1, 65535)
	} else {
		e.Doc = ahead + m.number(1, 65535-ahead)
	}
	if i%4 == 3 || i == n-1 {
		m.need(m.heads[i/4]/65536 == uint32(e.Doc))
	}
	count := m.number(1, 256)
	if m.off {
		return e
	}
	e.Pos = []int{m.number(0, 65535)}
	for len(e.Pos) < count {
		last := e.Pos[len(e.Pos)-1]
		e.Pos = append(e.Pos, last+m.number(1, 65535-last))
	}
	return e
}

// filled tells whether the bytes end within the last cell, with 0 behind them.
func (m *model) filled() bool {
	if (m.at+3)/4 != len(m.rest) {
		return false
	}
	for !m.off && m.at%4 != 0 {
		m.need(m.one() == 0)
	}
	return !m.off
}

func modelDecode(cells []uint32) ([]api.Entry, api.Errno) {
	if len(cells) == 0 || cells[0] > 64 {
		return nil, api.ErrForm
	}
	n := int(cells[0])
	blocks := (n + 3) / 4
	if len(cells) < 1+blocks {
		return nil, api.ErrForm
	}
	m := &model{heads: cells[1 : 1+blocks], rest: cells[1+blocks:]}
	var l []api.Entry
	ahead := -1
	for i := range n {
		e := m.entry(i, n, ahead)
		if m.off {
			return nil, api.ErrForm
		}
		l, ahead = append(l, e), e.Doc
	}
	if !m.filled() {
		return nil, api.ErrForm
	}
	return l, api.OK
}
