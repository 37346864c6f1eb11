package roll_test

import (
	"reflect"
	"slices"
	"testing"

	"plover/api"
	"plover/dict"
	"plover/find"
	"plover/mem"
	"plover/post"
	"plover/roll"
	"plover/step"
	"plover/table"
)

// sight is a document that a version sees, and its segment.
type sight struct {
	seg int
	doc api.Seen
}

// spot is a segment in which a key's term has places.
type spot struct {
	seg     int
	key     string
	entries []api.Entry
}

// view is what a reader finds.
type view struct {
	seen  []sight
	spots []spot
}

// reader is one that looks for what a version sees, and for keys, from the cell 2 on, by the exported functions of the layers below.
type reader struct {
	c    api.Conf
	p    api.Plan
	v    uint32
	keys []string
	got  view
}

func (x *reader) program(r *step.Run) {
	x.got = view{}
	manifest := int(r.Load(2))
	for i := range int(r.Load(manifest)) {
		a := int(r.Load(manifest + 1 + i))
		if r.Off() {
			return
		}
		n, base := find.Docs(r, a), a+2
		if n < 0 {
			n, base = x.c.Docs, a+1
		}
		for _, s := range table.Seen(r, base, n, x.v) {
			x.got.seen = append(x.got.seen, sight{i, s})
		}
		for _, key := range x.keys {
			if l := x.entries(r, a, n, base, key); len(l) > 0 {
				x.got.spots = append(x.got.spots, spot{i, key, l})
			}
		}
	}
}

// entries are a key's in one segment.
func (x *reader) entries(r *step.Run, a, n, base int, key string) []api.Entry {
	if base == a+2 {
		list := find.Term(r, a, key)
		if list == 0 {
			return nil
		}
		return find.List(r, list, n)
	}
	record, _ := dict.Find(r, base+4*n, x.p.Slots, key)
	if record == 0 {
		return nil
	}
	return roll.Entries(post.Walk(r, x.p, dict.Tail(r, record)))
}

// sees is the chapter's word for a row and a version.
func (x row) sees(v uint32) bool {
	return x[0] != 0 && x[0] <= v && (x[3] == 0 || x[3] > v)
}

// viewOf is what a reader should find, by what was done.
func (x *model) viewOf(v uint32, keys []string) view {
	var all view
	for i, c := range x.contents() {
		for d, r := range c.rows {
			if r.sees(v) {
				all.seen = append(all.seen, sight{i, api.Seen{Doc: d, Id: r[1], Length: int(r[2])}})
			}
		}
		for _, key := range keys {
			if l := c.places[key]; len(l) > 0 {
				all.spots = append(all.spots, spot{i, key, l})
			}
		}
	}
	return all
}

// keysOf are all keys that any segment has, and some that none has.
func (x *model) keysOf() []string {
	l := []string{"", "\x00", "\x00nowhere", "\x03fox", "\x00fo"}
	for _, s := range x.segs {
		for key := range s.terms {
			l = append(l, key)
		}
	}
	slices.Sort(l)
	return slices.Compact(l)
}

// read is what a reader finds that is alone.
func (b *bench) read(v uint32, keys []string) view {
	b.t.Helper()
	x := &reader{c: b.c, p: b.x.p, v: v, keys: keys}
	run(b.t, b.m, x.program)
	return x.got
}

// views holds what each version sees, and one of them all terms' places, against what was done.
func (b *bench) views(what string) []view {
	b.t.Helper()
	var l []view
	for v := range b.x.version + 3 {
		var keys []string
		if v == b.x.version {
			keys = b.x.keysOf()
		}
		got := b.read(v, keys)
		if want := b.x.viewOf(v, keys); !reflect.DeepEqual(got, want) {
			b.t.Fatalf("%s: the version %d sees %v, want %v", what, v, got, want)
		}
		l = append(l, got)
	}
	return l
}

// P16.2: ahead of a Roll and behind it, and behind another one, each version sees the same documents, and each term has the same places; also where documents are added and deleted then.
func TestSameDocuments(t *testing.T) {
	rolls, seen, spots := 0, 0, 0
	for seed := range 30 {
		d := dice(300 + seed)
		b := newBench(t, d.conf(t))
		for range 16 {
			o := d.op(b.x)
			if o.Kind != api.Roll {
				b.do(o)
				continue
			}
			ahead := b.views("ahead of a Roll")
			if b.do(o) != api.OK {
				continue
			}
			rolls++
			behind := b.views("behind a Roll")
			if !reflect.DeepEqual(ahead, behind) {
				t.Fatalf("seed %d: ahead of a Roll %v, behind it %v", seed, ahead, behind)
			}
			seen += len(behind[b.x.version].seen)
			spots += len(behind[b.x.version].spots)
		}
		b.views("at the end")
	}
	if rolls < 60 || seen < 150 || spots < 500 {
		t.Errorf("%d Rolls, %d documents seen, %d lists", rolls, seen, spots)
	}
}

// P16.2: a segment reckoned by hand: what its versions see ahead of a Roll and behind it, with a document deleted on each side.
func TestSameDocumentsByHand(t *testing.T) {
	b := newBench(t, wide())
	b.all(add(7, "fox dog"), add(8, "dog dog", "fox"), add(9), del(8))
	keys := []string{"\x00dog", "\x00fox", "\x01fox", "\x01dog"}
	spots := []spot{
		{0, "\x00dog", []api.Entry{{Doc: 0, Pos: []int{1}}, {Doc: 1, Pos: []int{0, 1}}}},
		{0, "\x00fox", []api.Entry{{Doc: 0, Pos: []int{0}}}},
		{0, "\x01fox", []api.Entry{{Doc: 1, Pos: []int{0}}}},
	}
	seven, eight, nine := sight{0, api.Seen{Doc: 0, Id: 7, Length: 2}}, sight{0, api.Seen{Doc: 1, Id: 8, Length: 3}}, sight{0, api.Seen{Doc: 2, Id: 9}}
	check := func(what string, want ...[]sight) {
		t.Helper()
		for v, l := range want {
			if got := b.read(uint32(v), keys); !reflect.DeepEqual(got, view{l, spots}) {
				t.Errorf("%s: the version %d: %v", what, v, got)
			}
		}
	}
	check("ahead of it", nil, []sight{seven}, []sight{seven, eight}, []sight{seven, eight, nine}, []sight{seven, nine}, []sight{seven, nine})
	b.all(seal())
	check("behind it", nil, []sight{seven}, []sight{seven, eight}, []sight{seven, eight, nine}, []sight{seven, nine}, []sight{seven, nine})
	b.all(del(7), seal())
	check("behind two", nil, []sight{seven}, []sight{seven, eight}, []sight{seven, eight, nine}, []sight{seven, nine}, []sight{nine})
}

// P16.3: readers that begin at each Step of a Roll, and go on by turns with it, find all of the old segments or of the new ones, which is the same.
func TestReadersByTurns(t *testing.T) {
	old, fresh := 0, 0
	for seed := range 12 {
		d := dice(700 + seed)
		c := d.conf(t)
		c.Room += 1500 // so that the last Roll has room
		b := newBench(t, c)
		for range 7 {
			b.do(d.op(b.x))
		}
		keys, steps := b.x.keysOf(), b.stepsOfRoll()
		want := b.x.viewOf(b.x.version, keys)
		starts := []int{steps - 1, steps} // ahead of the last store, and behind it
		for start := 0; start < steps; start += 1 + d.roll(steps/8+1) {
			starts = append(starts, start)
		}
		for _, start := range starts {
			m := copied(t, b.m)
			x := &reader{c: c, p: b.x.p, v: b.x.version, keys: keys}
			if byTurns(m, &call{o: seal()}, b, x, start, &d) == b.want[2] {
				old++
			} else {
				fresh++
			}
			if !reflect.DeepEqual(x.got, want) {
				t.Fatalf("seed %d: a reader that began behind %d Steps found %v, want %v", seed, start, x.got, want)
			}
		}
	}
	if old < 50 || fresh != 12 {
		t.Errorf("%d readers found the old manifest, %d the new one", old, fresh)
	}
}

// stepsOfRoll is how many Steps a Roll would have.
func (b *bench) stepsOfRoll() int {
	b.t.Helper()
	x := &call{o: seal()}
	return run(b.t, copied(b.t, b.m), x.program(b.c, b.w)).Count()
}

// byTurns goes on with a Roll, from some Step on with a reader beside it, up to both ends: what the cell 2 held when the reader began. (A reader that began behind the Roll's end begins then.)
func byTurns(m *mem.Mem, x *call, b *bench, y *reader, start int, d *dice) uint32 {
	roller, looker := step.New(m), step.New(m)
	program := x.program(b.c, b.w)
	for range start {
		roller.Step(program)
	}
	named, _ := m.Load(2)
	looker.Step(y.program)
	for !roller.Over() || !looker.Over() {
		if d.roll(3) > 0 {
			looker.Step(y.program)
		} else {
			roller.Step(program)
		}
	}
	return named
}
