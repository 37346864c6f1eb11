package query_test

import (
	"slices"
	"strings"

	"plover/api"
	"plover/fold"
	"plover/token"
)

// dice are numbers that only look random: the same ones in each run.
type dice uint64

func (d *dice) roll(n int) int {
	*d = *d*6364136223846793005 + 1442695040888963407
	return int(uint64(*d) >> 33 % uint64(n))
}

// pick is one of several.
func pick[T any](d *dice, l ...T) T { return l[d.roll(len(l))] }

// part is what a text is made of: one rune that is a sign, a blank or none of a query's, or a whole word, or a whole phrase.
type part struct {
	kind rune // the sign; 'w' of a word, 'p' of a phrase, ' ' of a blank, '?' of any other rune and of a " without another one behind it
	text string
}

// parts cuts a text.
func parts(s string) (l []part) {
	word := ""
	quote := -1 // where the phrase that is begun begins
	for i, r := range s + " " {
		if quote >= 0 {
			if r == '"' {
				l, quote = append(l, part{'p', s[quote:i]}), -1
			}
			continue
		}
		if fold.Class(r) > 0 {
			word += string(r)
			continue
		}
		if word != "" {
			l, word = append(l, part{'w', word}), ""
		}
		switch {
		case r == '"':
			quote = i + 1
		case strings.ContainsRune(" \t\n\r", r):
			l = append(l, part{' ', ""})
		case strings.ContainsRune("()&|!:#@", r):
			l = append(l, part{r, ""})
		default:
			l = append(l, part{'?', ""})
		}
	}
	if quote >= 0 {
		l = append(l, part{'?', ""})
	}
	return l
}

// level is what stands within one pair of brackets, so far: the finished parts of the "or", those of the "and" that is not over, and how many ! wait for theirs.
type level struct {
	or, and []api.Node
	nots    int
}

// What a reader may wait for.
const (
	aNot    = iota // the beginning of a "not"
	aText          // a word or a phrase, behind a field
	more           // a "not" is over
	aLimit         // behind a #
	anOrder        // behind a @
	tail           // behind a limit or an order
)

// machine reads a query part by part, without calls within calls.
type machine struct {
	levels         []level
	wait           int
	field          uint8
	q              api.Query
	limits, orders int
}

func (m *machine) top() *level { return &m.levels[len(m.levels)-1] }

// depth is how many ( and ! stand open.
func (m *machine) depth() int {
	n := len(m.levels) - 1
	for _, l := range m.levels {
		n += l.nots
	}
	return n
}

// over ends a "not".
func (m *machine) over(n api.Node) {
	t := m.top()
	for ; t.nots > 0; t.nots-- {
		n = api.Node{Kind: 4, Kids: []api.Node{n}}
	}
	t.and = append(t.and, n)
	m.wait = more
}

func group(kind int, l []api.Node) api.Node {
	if len(l) == 1 {
		return l[0]
	}
	return api.Node{Kind: kind, Kids: l}
}

// closed is what the innermost level says; it is gone behind that.
func (m *machine) closed() api.Node {
	t := m.top()
	n := group(3, append(t.or, group(2, t.and)))
	m.levels = m.levels[:len(m.levels)-1]
	return n
}

func modelLeaf(field uint8, s string) api.Node {
	n := api.Node{Kind: 1, Field: field}
	for _, w := range token.Words(s) {
		w.Field = field
		n.Terms = append(n.Terms, w)
	}
	for i := len(n.Terms) - 1; i >= 0; i-- {
		n.Terms[i].Pos -= n.Terms[0].Pos
	}
	return n
}

// limits are all that may be, as they are told.
var limits = strings.Fields("0 1 2 3 4 5 6 7 8 9 10 11 12 13 14 15 16 17 18 19 20 21 22 23 24 25 26 27 28 29 30 31 32 33 34 35 36 37 38 39 40 41 42 43 44 45 46 47 48 49 50 51 52 53 54 55 56 57 58 59 60 61 62 63 64")

// take takes the part p. Behind it at once stands another one, or itself, where it is the last. It tells how many of both it took: 0, where it can't go on.
func (m *machine) take(p, behind part) int {
	starts := m.wait == aNot || m.wait == more
	switch p.kind {
	case ' ':
		return 1
	case '(', '!':
		if !starts {
			return 0
		}
		if m.wait = aNot; p.kind == '(' {
			m.levels = append(m.levels, level{})
		} else {
			m.top().nots++
		}
		return 1
	case 'p':
		if starts || m.wait == aText {
			m.over(modelLeaf(m.field, p.text))
			m.field = 0
			return 1
		}
	case 'w':
		return m.takeWord(p.text, behind.kind == ':')
	case '&', '|', ')', '#', '@':
		return m.takeSign(p.kind)
	}
	return 0
}

func (m *machine) takeWord(s string, colon bool) int {
	limit, order := slices.Index(limits, s), slices.Index([]string{"rank", "new"}, s)
	switch starts := m.wait == aNot || m.wait == more; {
	case colon && starts && slices.Contains([]string{"0", "1", "2", "3"}, s):
		m.wait, m.field = aText, s[0]-'0'
		return 2
	case colon:
		return 0
	case starts || m.wait == aText:
		m.over(modelLeaf(m.field, s))
		m.field = 0
	case m.wait == aLimit && limit >= 0:
		m.q.Limit, m.wait = limit, tail
	case m.wait == anOrder && order >= 0:
		m.q.Order, m.wait = order, tail
	default:
		return 0
	}
	return 1
}

func (m *machine) takeSign(sign rune) int {
	outside := len(m.levels) == 1 && (m.wait == more || m.wait == tail)
	t := m.top()
	switch {
	case sign == '&' && m.wait == more:
		m.wait = aNot
	case sign == '|' && m.wait == more:
		t.or, t.and, m.wait = append(t.or, group(2, t.and)), nil, aNot
	case sign == ')' && m.wait == more && len(m.levels) > 1:
		m.over(m.closed())
	case sign == '#' && outside && m.limits == 0:
		m.limits, m.wait = 1, aLimit
	case sign == '@' && outside && m.orders == 0:
		m.orders, m.wait = 1, anOrder
	default:
		return 0
	}
	return 1
}

// modelParse is what the chapter's words ask of Parse.
func modelParse(s string) (api.Query, api.Errno) {
	if len(s) > 256 {
		return api.Query{}, api.ErrTooLong
	}
	m := machine{levels: make([]level, 1), q: api.Query{Limit: 10, Order: 0}}
	for l := parts(s); len(l) > 0; {
		if (l[0].kind == '(' || l[0].kind == '!') && m.depth() == 8 {
			return api.Query{}, api.ErrDeep
		}
		n := m.take(l[0], l[min(1, len(l)-1)])
		if n == 0 {
			return api.Query{}, api.ErrQuery
		}
		l = l[n:]
	}
	if len(m.levels) > 1 || m.wait != more && m.wait != tail {
		return api.Query{}, api.ErrQuery
	}
	m.q.Root = m.closed()
	return m.q, api.OK
}

// modelMay tells whether a tree may be but for its depth.
func modelMay(n api.Node) bool {
	least, most := map[int]int{1: 0, 2: 2, 3: 2, 4: 1}, map[int]int{1: 0, 2: 1 << 30, 3: 1 << 30, 4: 1}
	if n.Kind < 1 || n.Kind > 4 || len(n.Kids) < least[n.Kind] || len(n.Kids) > most[n.Kind] || n.Field > 3 {
		return false
	}
	if n.Kind > 1 && (n.Field > 0 || len(n.Terms) > 0) {
		return false
	}
	for i, x := range n.Terms {
		if x.Field != n.Field || x.Pos < 0 || x.Pos > 256 || (x.Pos == 0) != (i == 0) || i > 0 && x.Pos <= n.Terms[i-1].Pos {
			return false
		}
		if w := token.Words(x.Text); len(w) != 1 || w[0].Text != x.Text {
			return false
		}
	}
	return !slices.ContainsFunc(n.Kids, func(kid api.Node) bool { return !modelMay(kid) })
}

// modelNode is a node's text, whatever its depth.
func modelNode(n api.Node) string {
	if n.Kind == 1 {
		s := string(rune('0'+n.Field)) + ":"
		if len(n.Terms) == 1 {
			return s + n.Terms[0].Text
		}
		if len(n.Terms) == 0 {
			return s + `""`
		}
		words := slices.Repeat([]string{"a"}, n.Terms[len(n.Terms)-1].Pos+1)
		for _, x := range n.Terms {
			words[x.Pos] = x.Text
		}
		return s + `"` + strings.Join(words, " ") + `"`
	}
	var kids []string
	for _, kid := range n.Kids {
		s := modelNode(kid)
		if kid.Kind == 3 || kid.Kind == 2 && n.Kind != 3 {
			s = "(" + s + ")"
		}
		kids = append(kids, s)
	}
	return map[int]string{4: "!"}[n.Kind] + strings.Join(kids, map[int]string{2: " & ", 3: " | "}[n.Kind])
}

// modelDepth is how many brackets and ! of a text stand within one another at most. In a text that is shown a ! ends with the word, the phrase or the bracket behind it.
func modelDepth(s string) int {
	deepest := 0
	nots := []int{0} // the ! that are open, level by level
	end := func() { nots[len(nots)-1] = 0 }
	for _, p := range parts(s) {
		switch p.kind {
		case '!':
			nots[len(nots)-1]++
		case '(':
			nots = append(nots, 0)
		case ')':
			nots = nots[:len(nots)-1]
			end()
		case 'w', 'p':
			end()
		}
		depth := len(nots) - 1
		for _, n := range nots {
			depth += n
		}
		deepest = max(deepest, depth)
	}
	return deepest
}

// modelShow is what the chapter's words ask of Show.
func modelShow(q api.Query) (string, api.Errno) {
	if q.Limit < 0 || q.Limit > 64 || q.Order < 0 || q.Order > 1 || !modelMay(q.Root) {
		return "", api.ErrQuery
	}
	s := modelNode(q.Root)
	if modelDepth(s) > 8 {
		return "", api.ErrQuery
	}
	s += " #" + limits[q.Limit] + []string{" @rank", " @new"}[q.Order]
	if len(s) > 256 {
		return "", api.ErrTooLong
	}
	return s, api.OK
}

// modelLeaves goes over a tree without calls within calls: what is still to be gone over stands in a list, the next one last.
func modelLeaves(n api.Node) (l []api.Node, free []bool) {
	type task struct {
		node api.Node
		free bool
	}
	for todo := []task{{n, true}}; len(todo) > 0; {
		t := todo[len(todo)-1]
		todo = todo[:len(todo)-1]
		if t.node.Kind == 1 {
			l, free = append(l, api.Node{Kind: 1, Field: t.node.Field, Terms: t.node.Terms}), append(free, t.free)
			continue
		}
		for i := len(t.node.Kids) - 1; i >= 0; i-- {
			todo = append(todo, task{t.node.Kids[i], t.free && t.node.Kind != 4})
		}
	}
	return l, free
}

// same tells whether two trees are the same; a list without elements may be nil or empty.
func same(a, b api.Node) bool {
	return a.Kind == b.Kind && a.Field == b.Field && slices.Equal(a.Terms, b.Terms) && slices.EqualFunc(a.Kids, b.Kids, same)
}

// sameQuery tells whether two queries are the same.
func sameQuery(a, b api.Query) bool {
	return a.Limit == b.Limit && a.Order == b.Order && same(a.Root, b.Root)
}

// clone is a tree in new memory.
func clone(n api.Node) api.Node {
	n.Terms = slices.Clone(n.Terms)
	n.Kids = slices.Clone(n.Kids)
	for i := range n.Kids {
		n.Kids[i] = clone(n.Kids[i])
	}
	return n
}
