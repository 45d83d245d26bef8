package note_test

import (
	"math"
	"reflect"
	"slices"
	"testing"

	"telltale/api"
	"telltale/note"
	"telltale/span"
	"telltale/vector"
)

func at(count, node int) api.Stamp { return api.Stamp{Count: count, Node: node} }

func to(lo, hi int) api.Span { return api.Span{Lo: lo, Hi: hi} }

// put, gone: a write of an object, and one that deletes it.
func put(o, count, node int) api.Write { return api.Write{Stamp: at(count, node), Object: o} }

func gone(o, count, node int) api.Write {
	return api.Write{Stamp: at(count, node), Object: o, Gone: true}
}

func vec(list ...api.Stamp) []api.Stamp { return list }

func set(list ...api.Span) []api.Span { return list }

func row(list ...api.Write) []api.Write { return list }

// same: do two notes say the same? A list that holds nothing may be nil or empty.
func same(a, b api.Note) bool {
	return slices.Equal(a.Start, b.Start) && slices.Equal(a.End, b.End) && slices.Equal(a.Blur, b.Blur) && slices.Equal(a.Writes, b.Writes)
}

func isZero(n api.Note) bool { return same(n, api.Note{}) }

// isFormed: what the document asks of a note, of each write and of each two of them.
func isFormed(n api.Note) bool {
	if !vector.Formed(n.Start) || !vector.Formed(n.End) || !span.Formed(n.Blur) {
		return false
	}
	for _, s := range n.Start {
		if s.Count > countIn(n.End, s.Node) {
			return false
		}
	}
	for i, w := range n.Writes {
		s := w.Stamp
		if s.Count < 1 || s.Node < 0 || s.Node > 63 || s.Count > countIn(n.End, s.Node) || w.Object < 0 || w.Object > 255 || isIn(n.Blur, w.Object) {
			return false
		}
		for _, before := range n.Writes[:i] {
			if before.Object >= w.Object {
				return false
			}
		}
	}
	return true
}

// countIn: a vector's count of a node.
func countIn(v []api.Stamp, node int) int {
	for _, s := range v {
		if s.Node == node {
			return s.Count
		}
	}
	return 0
}

// isIn: is an object in any list of spans?
func isIn(l []api.Span, o int) bool {
	for _, s := range l {
		if o >= 0 && o <= 255 && o >= s.Lo && o <= s.Hi {
			return true
		}
	}
	return false
}

// writeOf: a list's write of an object.
func writeOf(list []api.Write, o int) (api.Write, bool) {
	for _, w := range list {
		if w.Object == o {
			return w, true
		}
	}
	return api.Write{}, false
}

// setOf: the set of the objects that are asked for.
func setOf(in func(o int) bool) []api.Span {
	var objects []int
	for o := range 256 {
		if in(o) {
			objects = append(objects, o)
		}
	}
	return span.Of(objects...)
}

// base: a note that is formed, with something of all in it.
func base() api.Note {
	return api.Note{
		Start:  vec(at(5, 0), at(2, 3)),
		End:    vec(at(6, 0), at(4, 1), at(2, 3), at(api.MaxCount, 63)),
		Blur:   set(to(1, 2), to(10, 20), to(254, 254)),
		Writes: row(put(0, 6, 0), gone(3, 4, 1), put(21, api.MaxCount, 63), gone(255, 1, 1)),
	}
}

// everyObject: a note with a write of each object.
func everyObject() api.Note {
	n := api.Note{End: vec(at(1000, 7))}
	for o := range 256 {
		n.Writes = append(n.Writes, put(o, 1000-o, 7))
	}
	return n
}

// changed: the base, but for one thing.
func changed(change func(n *api.Note)) api.Note {
	n := base()
	change(&n)
	return n
}

// formedNotes: notes that are formed, up to their edges.
func formedNotes() []api.Note {
	var evens []api.Write
	for o := 0; o < 256; o += 2 {
		evens = append(evens, gone(o, 1, 63))
	}
	return []api.Note{
		{},
		{Start: vec(), End: vec(), Blur: set(), Writes: row()},
		base(),
		everyObject(),
		{Blur: set(to(0, 255))},
		{End: vec(at(1, 63)), Blur: setOf(func(o int) bool { return o%2 == 1 }), Writes: evens},
		{Start: vec(at(5, 0)), End: vec(at(5, 0))},
		{Start: vec(at(5, 0)), End: vec(at(5, 0)), Writes: row(put(255, 5, 0))},
		{Start: vec(at(5, 0)), End: vec(at(5, 0), at(6, 1)), Writes: row(put(0, 6, 1))},
		{Start: vec(at(5, 0)), End: vec(at(9, 0)), Blur: set(to(0, 0), to(255, 255)), Writes: row(put(1, 1, 0), put(254, 9, 0))},
		{End: vec(at(7, 0)), Blur: set(to(4, 6)), Writes: row(put(3, 7, 0), put(7, 7, 0))},
		{End: vec(at(api.MaxCount, 0)), Writes: row(put(0, api.MaxCount, 0))},
	}
}

// wrong: a note that isn't formed, and why.
type wrong struct {
	why string
	n   api.Note
}

// wrongNotes: notes that aren't formed, in each of the ways that make them so.
func wrongNotes() []wrong {
	var list []wrong
	add := func(why string, change func(n *api.Note)) { list = append(list, wrong{why, changed(change)}) }
	for _, v := range [][]api.Stamp{
		vec(at(2, 3), at(5, 0)), vec(at(5, 0), at(5, 0)), vec(at(5, 0), at(2, 0)), vec(at(0, 0)), vec(at(-1, 3)), vec(at(1, 64)), vec(at(1, -1)),
		vec(at(math.MinInt, 0)), vec(at(1, math.MaxInt)), vec(at(5, 0), at(0, 3)), vec(at(5, 0), at(2, 3), at(1, 64)),
	} {
		add("Start is no vector", func(n *api.Note) { n.Start = v })
		add("End is no vector", func(n *api.Note) { n.Start, n.End, n.Writes = nil, v, nil })
	}
	add("End is no vector: out of order", func(n *api.Note) { n.End[0], n.End[1] = n.End[1], n.End[0] })
	add("End is no vector: a node twice", func(n *api.Note) { n.End = append(n.End, at(api.MaxCount, 63)) })
	add("End is no vector: a stamp that isn't right", func(n *api.Note) { n.End = append(n.End, at(1, 64)) })
	for _, v := range [][]api.Stamp{
		vec(at(7, 0)), vec(at(api.MaxCount, 0)), vec(at(1, 2)), vec(at(5, 0), at(3, 3)), vec(at(1, 62)), vec(at(5, 0), at(2, 3), at(1, 4)),
	} {
		add("End doesn't cover Start", func(n *api.Note) { n.Start = v })
	}
	add("End doesn't cover Start: it has nothing", func(n *api.Note) { n.End, n.Writes = nil, nil })
	for _, l := range [][]api.Span{
		set(to(5, 4)), set(to(100, 110), to(111, 112)), set(to(100, 256)), set(to(-1, 0)), set(to(5, 5), to(5, 5)), set(to(50, 60), to(40, 41)),
		set(to(5, 8), to(7, 9)), set(to(-9, -1)), set(to(256, 256)), set(to(math.MinInt, math.MaxInt)), set(to(math.MaxInt, math.MinInt)),
	} {
		add("Blur is no set", func(n *api.Note) { n.Blur, n.Writes = l, nil })
	}
	add("Blur is no set, with writes", func(n *api.Note) { n.Blur = set(to(5, 4)) })
	for _, s := range vec(
		at(0, 0), at(-1, 0), at(math.MinInt, 0), at(0, 2), at(1, -1), at(1, 64), at(0, 64), at(1, math.MaxInt), at(1, math.MinInt), at(math.MinInt, math.MinInt),
	) {
		add("a write's stamp isn't right", func(n *api.Note) { n.Writes[1].Stamp = s })
		add("a write's stamp isn't right", func(n *api.Note) { n.Writes = row(api.Write{Stamp: s}) })
	}
	for _, s := range vec(at(7, 0), at(5, 1), at(3, 3), at(1, 2), at(1, 62), at(api.MaxCount, 0)) {
		add("End doesn't have a write's stamp", func(n *api.Note) { n.Writes[1].Stamp = s })
		add("End doesn't have a write's stamp", func(n *api.Note) { n.Writes[3].Stamp = s })
	}
	add("End has no stamp", func(n *api.Note) { n.Start, n.End = nil, nil })
	for i, o := range []int{1, 2, 20, 254} {
		add("a write of an object in Blur", func(n *api.Note) { n.Writes[i].Object = o })
		add("a write of an object in Blur", func(n *api.Note) { n.Writes = row(put(o, 6, 0)) })
	}
	add("a write of an object in Blur, all being in it", func(n *api.Note) { n.Blur = set(to(0, 255)) })
	for _, o := range []int{-1, 256, 257, math.MinInt, math.MaxInt, -256, 1 << 32} {
		add("a write of what is no object", func(n *api.Note) { n.Writes = row(put(o, 6, 0)) })
		add("a write of what is no object", func(n *api.Note) { n.Writes[0].Object = o })
		add("a write of what is no object", func(n *api.Note) { n.Writes[3].Object = o })
		add("a write of what is no object", func(n *api.Note) { n.Blur, n.Writes = nil, row(put(o, 6, 0)) })
	}
	add("writes out of order", func(n *api.Note) { slices.Reverse(n.Writes) })
	add("writes out of order", func(n *api.Note) { n.Writes[0], n.Writes[1] = n.Writes[1], n.Writes[0] })
	add("writes out of order", func(n *api.Note) { n.Writes[2], n.Writes[3] = n.Writes[3], n.Writes[2] })
	add("an object twice", func(n *api.Note) { n.Writes[1].Object = 0 })
	add("an object twice", func(n *api.Note) { n.Writes = append(n.Writes, gone(255, 1, 1)) })
	add("an object twice", func(n *api.Note) { n.Writes = append(n.Writes, put(255, 6, 0)) })
	add("an object twice", func(n *api.Note) { n.Writes = row(put(0, 6, 0), put(0, 6, 0)) })
	all := everyObject()
	list = append(list, wrong{"a write more than there are objects", api.Note{End: all.End, Writes: append(all.Writes, put(256, 1, 7))}})
	list = append(list, wrong{"all wrong", api.Note{Start: vec(at(0, 0)), End: vec(at(0, 0)), Blur: set(to(9, 8)), Writes: row(put(-1, 0, -1), put(-1, 0, -1))}})
	return list
}

// P4.1: Formed, of what is formed and of what isn't in each of the ways.
func TestFormed(t *testing.T) {
	for _, n := range formedNotes() {
		if !isFormed(n) {
			t.Fatal("the test's own words differ:", n)
		}
		if !note.Formed(n) {
			t.Error("is formed:", n)
		}
	}
	for _, w := range wrongNotes() {
		if isFormed(w.n) {
			t.Fatal("the test's own words differ:", w.why, w.n)
		}
		if note.Formed(w.n) {
			t.Error("isn't formed:", w.why, w.n)
		}
	}
}

// anyNotes: all notes of lists from some pools, right and wrong ones.
func anyNotes(yield func(n api.Note) bool) {
	vectors := [][]api.Stamp{nil, vec(at(5, 0)), vec(at(6, 0)), vec(at(5, 0), at(2, 63)), vec(at(2, 63), at(5, 0)), vec(at(0, 0)), vec(at(1, 64))}
	blurs := [][]api.Span{nil, set(to(0, 0)), set(to(0, 255)), set(to(3, 254)), set(to(3, 3), to(255, 255)), set(to(5, 4)), set(to(1, 2), to(3, 3)), set(to(255, 256))}
	writes := [][]api.Write{nil}
	for from := 0; len(writes[from]) < 2; from++ {
		for _, o := range []int{-1, 0, 3, 255, 256} {
			for _, s := range vec(at(5, 0), at(6, 0), at(2, 63), at(0, 0), at(1, 64)) {
				writes = append(writes, append(slices.Clone(writes[from]), api.Write{Stamp: s, Object: o}))
			}
		}
	}
	for _, start := range vectors {
		for _, end := range vectors {
			for _, blur := range blurs {
				for _, list := range writes {
					if !yield(api.Note{Start: start, End: end, Blur: blur, Writes: list}) {
						return
					}
				}
			}
		}
	}
}

// P4.1: Formed of any note, right or wrong in any number of ways at once; and that all calls that ask for a formed one go by it.
func TestFormedOfAnyNote(t *testing.T) {
	seen := 0
	good := base()
	for n := range anyNotes {
		want := isFormed(n)
		if note.Formed(n) != want {
			t.Fatal(n, "formed:", !want)
		}
		if want {
			seen++
			continue
		}
		if _, e := note.Merge(n, good); e != api.ErrArg {
			t.Fatal("merged:", n, e)
		}
		if _, e := note.Merge(good, n); e != api.ErrArg {
			t.Fatal("merged:", n, e)
		}
		if _, e := note.Through(n, set(to(0, 255))); e != api.ErrArg {
			t.Fatal("seen:", n, e)
		}
		if _, _, e := note.Told(n, 3); e != api.ErrArg {
			t.Fatal("told:", n, e)
		}
	}
	if seen < 100 {
		t.Error(seen)
	}
}

// P4.1: beside an error nothing is answered.
func TestWrongNotesAreRefused(t *testing.T) {
	for _, w := range wrongNotes() {
		for _, o := range []int{-1, 0, 1, 3, 255, 256} {
			if got, sharp, e := note.Told(w.n, o); got != (api.Write{}) || sharp || e != api.ErrArg {
				t.Error("told:", w.why, o, got, sharp, e)
			}
		}
		for _, interest := range [][]api.Span{nil, set(to(0, 255)), set(to(3, 3))} {
			if got, e := note.Through(w.n, interest); !isZero(got) || e != api.ErrArg {
				t.Error("seen:", w.why, got, e)
			}
		}
		for _, other := range []api.Note{{}, base(), w.n} {
			if got, e := note.Merge(w.n, other); !isZero(got) || e != api.ErrArg {
				t.Error("merged, the first wrong:", w.why, got, e)
			}
			if got, e := note.Merge(other, w.n); !isZero(got) || e != api.ErrArg {
				t.Error("merged, the second wrong:", w.why, got, e)
			}
		}
	}
}

// P4.1: Of one write, behind what is known.
func TestOf(t *testing.T) {
	full := vec()
	for node := range 64 {
		full = append(full, at(100+node, node))
	}
	for _, c := range []struct {
		known []api.Stamp
		w     api.Write
		end   []api.Stamp
	}{
		{vec(at(5, 0)), put(3, 6, 1), vec(at(5, 0), at(6, 1))},
		{vec(at(5, 0)), gone(3, 6, 1), vec(at(5, 0), at(6, 1))},
		{vec(at(5, 0)), put(0, 6, 0), vec(at(6, 0))},
		{vec(at(5, 0)), put(255, 1, 1), vec(at(5, 0), at(1, 1))},
		{nil, put(0, 1, 0), vec(at(1, 0))},
		{vec(), gone(255, api.MaxCount, 63), vec(at(api.MaxCount, 63))},
		{vec(at(5, 1), at(7, 63)), put(9, 2, 0), vec(at(2, 0), at(5, 1), at(7, 63))},
		{vec(at(5, 1), at(7, 63)), put(9, 2, 5), vec(at(5, 1), at(2, 5), at(7, 63))},
		{vec(at(5, 1), at(7, 63)), put(9, 100, 1), vec(at(100, 1), at(7, 63))},
		{full, put(9, 101, 0), append(vec(at(101, 0)), full[1:]...)},
		{vec(at(api.MaxCount-1, 4)), put(9, api.MaxCount, 4), vec(at(api.MaxCount, 4))},
	} {
		want := api.Note{Start: c.known, End: c.end, Writes: row(c.w)}
		got, e := note.Of(c.known, c.w)
		if e != api.OK || !same(got, want) || !isFormed(got) {
			t.Error("Of", c.known, c.w, got, e)
		}
		if !note.Fits(got, c.known) || !note.News(got, c.known) || note.News(got, c.end) {
			t.Error("Of", c.known, c.w, got, "and what was known")
		}
	}
}

// P4.1: Of refuses what is no vector, no right stamp, no object, or known already.
func TestOfWrongs(t *testing.T) {
	known := vec(at(5, 0), at(2, 3))
	for _, c := range []struct {
		known []api.Stamp
		w     api.Write
	}{
		{vec(at(2, 3), at(5, 0)), put(3, 6, 1)}, {vec(at(5, 0), at(5, 0)), put(3, 6, 1)}, {vec(at(0, 0)), put(3, 6, 1)}, {vec(at(1, 64)), put(3, 6, 1)}, {vec(at(5, 0), at(-1, 2)), put(3, 6, 1)},
		{known, put(3, 0, 1)}, {known, put(3, -1, 1)}, {known, put(3, math.MinInt, 1)}, {known, put(3, 6, -1)}, {known, put(3, 6, 64)}, {known, put(3, 6, math.MinInt)}, {known, put(3, 6, math.MaxInt)}, {known, api.Write{}}, {nil, api.Write{}},
		{known, put(-1, 6, 1)}, {known, put(256, 6, 1)}, {known, put(math.MinInt, 6, 1)}, {known, put(math.MaxInt, 6, 1)}, {nil, gone(256, 6, 1)},
		{known, put(3, 5, 0)}, {known, put(3, 4, 0)}, {known, put(3, 1, 0)}, {known, put(3, 2, 3)}, {known, gone(3, 1, 3)}, {vec(at(api.MaxCount, 63)), put(0, api.MaxCount, 63)},
	} {
		if got, e := note.Of(c.known, c.w); !isZero(got) || e != api.ErrArg {
			t.Error("Of", c.known, c.w, got, e)
		}
	}
}

// P4.1: Of any list and any write: a note behind what is known, or ErrArg.
func TestOfAnyWrite(t *testing.T) {
	stamps := vec(at(1, 0), at(2, 0), at(3, 0), at(api.MaxCount, 0), at(1, 63), at(2, 63), at(0, 0), at(-1, 63), at(1, 64), at(1, -1))
	lists := [][]api.Stamp{nil}
	for from := 0; len(lists[from]) < 2; from++ {
		for _, s := range stamps {
			lists = append(lists, append(slices.Clone(lists[from]), s))
		}
	}
	for _, known := range lists {
		for _, s := range stamps {
			for _, o := range []int{-1, 0, 128, 255, 256} {
				w := api.Write{Stamp: s, Object: o, Gone: o == 128}
				right := s.Count > 0 && s.Node >= 0 && s.Node < 64
				want := vector.Formed(known) && right && o >= 0 && o < 256 && s.Count > countIn(known, s.Node)
				got, e := note.Of(known, w)
				if !want && (e != api.ErrArg || !isZero(got)) {
					t.Fatal("Of", known, w, got, e)
				}
				if want && (e != api.OK || !same(got, api.Note{Start: known, End: vector.With(known, s), Writes: row(w)}) || !isFormed(got)) {
					t.Fatal("Of", known, w, got, e)
				}
			}
		}
	}
}

// P4.1: Fits and News, of a note and of notes that aren't formed.
func TestFitsAndNews(t *testing.T) {
	n := base()
	for _, c := range []struct {
		n          api.Note
		known      []api.Stamp
		fits, news bool
	}{
		{n, nil, false, true},
		{n, vec(at(5, 0)), false, true},
		{n, vec(at(4, 0), at(2, 3)), false, true},
		{n, vec(at(5, 0), at(1, 3)), false, true},
		{n, n.Start, true, true},
		{n, vec(at(5, 0), at(9, 2), at(2, 3)), true, true},
		{n, vec(at(6, 0), at(4, 1), at(2, 3), at(api.MaxCount-1, 63)), true, true},
		{n, vec(at(6, 0), at(3, 1), at(2, 3), at(api.MaxCount, 63)), true, true},
		{n, n.End, true, false},
		{n, vec(at(7, 0), at(4, 1), at(1, 2), at(2, 3), at(api.MaxCount, 63)), true, false},
		{n, vec(at(6, 0), at(4, 1), at(api.MaxCount, 63)), false, true},
		{api.Note{}, nil, true, false},
		{api.Note{}, n.End, true, false},
		{api.Note{Start: vec(at(5, 0))}, nil, false, false},
		{api.Note{Start: vec(at(5, 0))}, vec(at(5, 0)), true, false},
		{api.Note{Start: vec(at(0, 0), at(7, 64), at(3, 0))}, vec(at(3, 0)), true, false},
		{api.Note{Start: vec(at(0, 0), at(7, 64), at(3, 0))}, vec(at(2, 0)), false, false},
		{api.Note{End: vec(at(2, 3), at(-1, 0), at(1, 0))}, vec(at(1, 0), at(2, 3)), true, false},
		{api.Note{End: vec(at(2, 3), at(-1, 0), at(1, 0))}, vec(at(0, 0), at(1, 3)), true, true},
		{api.Note{Blur: set(to(9, 8)), Writes: row(put(-1, 0, 0), put(-1, 7, 0))}, nil, true, false},
		{api.Note{Start: vec(at(9, 0)), End: vec(at(5, 0))}, vec(at(7, 0)), false, false},
	} {
		if note.Fits(c.n, c.known) != c.fits {
			t.Error(c.n, c.known, "fits:", !c.fits)
		}
		if note.News(c.n, c.known) != c.news {
			t.Error(c.n, c.known, "news:", !c.news)
		}
	}
	for n := range world() {
		for _, known := range vectors() {
			if note.Fits(n, known) != vector.Covers(known, n.Start) || note.News(n, known) == vector.Covers(known, n.End) {
				t.Fatal(n, known)
			}
		}
	}
}

// P4.1: Told, of each object and of what is none.
func TestTold(t *testing.T) {
	numbers := []int{math.MinInt, -256, -1, 256, 257, 511, math.MaxInt, 1 << 32}
	for o := range 256 {
		numbers = append(numbers, o)
	}
	for _, n := range formedNotes() {
		for _, o := range numbers {
			want, has := writeOf(n.Writes, o)
			sharp, e := !isIn(n.Blur, o), api.ErrNotFound
			if has {
				e = api.OK
			}
			if o < 0 || o > 255 {
				sharp, e = false, api.ErrArg
			}
			if got, s, f := note.Told(n, o); got != want || s != sharp || f != e {
				t.Error("told of", o, n, got, s, f)
			}
		}
	}
	for _, c := range []struct {
		o     int
		w     api.Write
		sharp bool
		e     api.Errno
	}{
		{0, put(0, 6, 0), true, api.OK},
		{3, gone(3, 4, 1), true, api.OK},
		{255, gone(255, 1, 1), true, api.OK},
		{4, api.Write{}, true, api.ErrNotFound},
		{9, api.Write{}, true, api.ErrNotFound},
		{22, api.Write{}, true, api.ErrNotFound},
		{253, api.Write{}, true, api.ErrNotFound},
		{1, api.Write{}, false, api.ErrNotFound},
		{20, api.Write{}, false, api.ErrNotFound},
		{254, api.Write{}, false, api.ErrNotFound},
		{-1, api.Write{}, false, api.ErrArg},
		{256, api.Write{}, false, api.ErrArg},
	} {
		if w, sharp, e := note.Told(base(), c.o); w != c.w || sharp != c.sharp || e != c.e {
			t.Error("told of", c.o, w, sharp, e)
		}
	}
}

// interests: lists of spans, sets and not.
func interests() [][]api.Span {
	return [][]api.Span{
		nil, set(), set(to(0, 255)), set(to(0, 0)), set(to(255, 255)), set(to(0, 2)), set(to(3, 254)), set(to(0, 0), to(255, 255)), set(to(3, 3), to(21, 100)),
		setOf(func(o int) bool { return o%2 == 0 }), setOf(func(o int) bool { return o%3 == 0 }), setOf(func(o int) bool { return o >= 128 }),
		set(to(255, 300), to(-7, 0)), set(to(4, 3)), set(to(256, 999)), set(to(-9, -1)), set(to(20, 30), to(3, 25), to(3, 25)), set(to(math.MinInt, math.MaxInt)), set(to(math.MaxInt, math.MinInt)), set(to(21, 21), to(3, 4), to(9, 8)),
	}
}

// seen: a note through an interest, word by word.
func seen(n api.Note, interest []api.Span) api.Note {
	out := api.Note{Start: n.Start, End: n.End}
	out.Blur = setOf(func(o int) bool {
		_, has := writeOf(n.Writes, o)
		return isIn(n.Blur, o) || has && !isIn(interest, o)
	})
	for _, w := range n.Writes {
		if isIn(interest, w.Object) {
			out.Writes = append(out.Writes, w)
		}
	}
	return out
}

// P4.1: Through any list of spans.
func TestThrough(t *testing.T) {
	notes := append(formedNotes(), slices.Collect(world())...)
	for _, n := range notes {
		for _, interest := range interests() {
			if got, e := note.Through(n, interest); e != api.OK || !same(got, seen(n, interest)) || !isFormed(got) {
				t.Fatal(n, "through", interest, got, e)
			}
		}
	}
	one := api.Note{Start: vec(at(5, 0)), End: vec(at(5, 0), at(6, 1)), Writes: row(put(3, 6, 1))}
	if got, e := note.Through(one, set(to(0, 2))); e != api.OK || !same(got, api.Note{Start: one.Start, End: one.End, Blur: set(to(3, 3))}) {
		t.Error(got, e)
	}
	for _, c := range []struct {
		interest, blur []api.Span
		writes         []api.Write
	}{
		{nil, set(to(0, 3), to(10, 21), to(254, 255)), nil},
		{set(to(1, 2), to(10, 20)), set(to(0, 3), to(10, 21), to(254, 255)), nil},
		{set(to(0, 20)), set(to(1, 2), to(10, 21), to(254, 255)), row(put(0, 6, 0), gone(3, 4, 1))},
		{set(to(255, 300), to(21, 21)), set(to(0, 3), to(10, 20), to(254, 254)), row(put(21, api.MaxCount, 63), gone(255, 1, 1))},
		{set(to(0, 255)), base().Blur, base().Writes},
	} {
		if got, e := note.Through(base(), c.interest); e != api.OK || !same(got, api.Note{Start: base().Start, End: base().End, Blur: c.blur, Writes: c.writes}) {
			t.Error("through", c.interest, got, e)
		}
	}
}

// P4.2: through one interest and then another one is through what both have together; through all objects it is itself.
func TestThroughTwo(t *testing.T) {
	few, lists := formedNotes(), interests()
	for i, n := range append(few, slices.Collect(world())...) {
		for j, one := range lists {
			for k, other := range lists {
				if i >= len(few) && (i+j+3*k)%11 > 0 {
					continue
				}
				first, e := note.Through(n, one)
				second, f := note.Through(first, other)
				both, g := note.Through(n, span.Meet(one, other))
				if e != api.OK || f != api.OK || g != api.OK || !same(second, both) {
					t.Fatal(n, one, other, second, both)
				}
			}
		}
		for _, all := range [][]api.Span{set(to(0, 255)), set(to(math.MinInt, math.MaxInt)), set(to(100, 255), to(-3, 120))} {
			if got, e := note.Through(n, all); e != api.OK || !same(got, n) {
				t.Fatal(n, "through all", got, e)
			}
		}
	}
}

// vectors: all of two nodes with counts up to 2.
func vectors() [][]api.Stamp {
	var all [][]api.Stamp
	for i := range 3 {
		for j := range 3 {
			all = append(all, vector.Join(vec(at(i, 0)), vec(at(j, 63))))
		}
	}
	return all
}

// world: all formed notes over these vectors and the objects 0 and 255; what is gone is so by its turn.
func world() func(yield func(n api.Note) bool) {
	objects := []int{0, 255}
	turn := 0
	// ways: what can be said of the objects from the i-th on, beside what was said of those ahead.
	var ways func(n api.Note, i int, yield func(n api.Note) bool) bool
	ways = func(n api.Note, i int, yield func(n api.Note) bool) bool {
		if i == len(objects) {
			return yield(n)
		}
		o := objects[i]
		blurred := n
		blurred.Blur = append(slices.Clone(n.Blur), to(o, o))
		if !ways(n, i+1, yield) || !ways(blurred, i+1, yield) {
			return false
		}
		for _, node := range []int{0, 63} {
			for c := 1; c <= countIn(n.End, node); c++ {
				turn++
				written := n
				written.Writes = append(slices.Clone(n.Writes), api.Write{Stamp: at(c, node), Object: o, Gone: turn%3 == 0})
				if !ways(written, i+1, yield) {
					return false
				}
			}
		}
		return true
	}
	return func(yield func(n api.Note) bool) {
		turn = 0
		for _, end := range vectors() {
			for _, start := range vectors() {
				if vector.Covers(end, start) && !ways(api.Note{Start: start, End: end}, 0, yield) {
					return
				}
			}
		}
	}
}

// newer: does x come behind y?
func newer(x, y api.Stamp) bool {
	return x.Count > y.Count || x.Count == y.Count && x.Node > y.Node
}

// merged: two notes as one, word by word.
func merged(a, b api.Note) api.Note {
	var n api.Note
	for node := range 64 {
		start, end := countIn(a.Start, node), max(countIn(a.End, node), countIn(b.End, node))
		if later := countIn(b.Start, node); later > countIn(a.End, node) {
			start = later
		}
		if start > 0 {
			n.Start = append(n.Start, at(start, node))
		}
		if end > 0 {
			n.End = append(n.End, at(end, node))
		}
	}
	n.Blur = setOf(func(o int) bool { return isIn(a.Blur, o) || isIn(b.Blur, o) })
	for o := range 256 {
		one, hasOne := writeOf(a.Writes, o)
		other, hasOther := writeOf(b.Writes, o)
		if isIn(n.Blur, o) || !hasOne && !hasOther {
			continue
		}
		if !hasOne || hasOther && newer(other.Stamp, one.Stamp) {
			one = other
		}
		n.Writes = append(n.Writes, one)
	}
	return n
}

// checkLost: of an object that is sharp in both nothing is lost but what is older, and nothing is told that none of them told.
func checkLost(t *testing.T, a, b, m api.Note, o int) {
	t.Helper()
	one, sharpA, e := note.Told(a, o)
	other, sharpB, f := note.Told(b, o)
	got, sharp, g := note.Told(m, o)
	if sharp != (sharpA && sharpB) {
		t.Fatal(a, b, m, o, "sharp:", sharp)
	}
	if g == api.OK && !(e == api.OK && got == one) && !(f == api.OK && got == other) {
		t.Fatal(a, b, m, o, "none of them told:", got)
	}
	if !sharp {
		return
	}
	if e == api.OK && (g != api.OK || newer(one.Stamp, got.Stamp)) || f == api.OK && (g != api.OK || newer(other.Stamp, got.Stamp)) {
		t.Fatal(a, b, m, o, "lost", one, other)
	}
}

// checkMerged: two notes as one against the document's words, and the promise P4.3.
func checkMerged(t *testing.T, a, b api.Note, objects ...int) {
	t.Helper()
	m, e := note.Merge(a, b)
	if e != api.OK || !same(m, merged(a, b)) || !isFormed(m) {
		t.Fatal("merged", a, b, m, e)
	}
	if !vector.Covers(m.End, a.End) || !vector.Covers(m.End, b.End) {
		t.Fatal("End of", a, b, m)
	}
	for _, o := range objects {
		checkLost(t, a, b, m, o)
	}
	for _, known := range vectors() {
		if note.Fits(a, known) && note.Fits(b, vector.Join(known, a.End)) && !note.Fits(m, known) {
			t.Fatal(a, b, m, "doesn't fit", known)
		}
	}
}

// P4.1, P4.3: Merge of two notes of a small world: with gaps, one behind the other, over one another.
func TestMergeOfTheWorld(t *testing.T) {
	notes := slices.Collect(world())
	for i, a := range notes {
		if !isFormed(a) {
			t.Fatal(a)
		}
		for j := i % 7; j < len(notes); j += 7 {
			checkMerged(t, a, notes[j], 0, 1, 255)
		}
	}
	if len(notes) < 500 {
		t.Error(len(notes))
	}
}

// P4.1, P4.3: Merge of greater notes, up to all objects.
func TestMergeOfMany(t *testing.T) {
	var odds []api.Write
	for o := 1; o < 256; o += 2 {
		odds = append(odds, gone(o, 1+o, 7))
	}
	notes := append(formedNotes(), api.Note{Start: vec(at(255, 7)), End: vec(at(256, 7)), Writes: odds})
	for _, n := range notes[:len(notes):len(notes)] {
		for _, interest := range interests() {
			through, _ := note.Through(n, interest)
			notes = append(notes, through)
		}
	}
	for i, a := range notes {
		for j := i % 11; j < len(notes); j += 11 {
			checkMerged(t, a, notes[j], 0, 1, 2, 3, 4, 20, 21, 22, 127, 128, 253, 254, 255)
		}
	}
}

// P4.1: the document's example, and the edges that it names.
func TestMergeExamples(t *testing.T) {
	first := api.Note{Start: vec(at(5, 0)), End: vec(at(5, 0), at(6, 1)), Writes: row(put(3, 6, 1))}
	behind := api.Note{Start: first.End, End: vec(at(7, 0), at(6, 1)), Writes: row(put(4, 7, 0))}
	for _, c := range []struct {
		why           string
		a, b          api.Note
		start, end    []api.Stamp
		blur          []api.Span
		writes        []api.Write
		alsoBackwards bool
	}{
		{"one behind the other", first, behind, vec(at(5, 0)), vec(at(7, 0), at(6, 1)), nil, row(put(3, 6, 1), put(4, 7, 0)), false},
		{"the later one first", behind, first, vec(at(5, 0), at(6, 1)), vec(at(7, 0), at(6, 1)), nil, row(put(3, 6, 1), put(4, 7, 0)), false},
		{"with itself", first, first, first.Start, first.End, nil, first.Writes, false},
		{"with nothing", first, api.Note{}, first.Start, first.End, nil, first.Writes, false},
		{"nothing first: a gap", api.Note{}, first, first.Start, first.End, nil, first.Writes, false},
		{
			"a gap at one node, none at the others",
			api.Note{Start: vec(at(1, 0), at(1, 1)), End: vec(at(3, 0), at(3, 1), at(2, 2))},
			api.Note{Start: vec(at(5, 0), at(3, 1), at(2, 2), at(4, 3)), End: vec(at(6, 0), at(9, 1), at(2, 2), at(4, 3))},
			vec(at(5, 0), at(1, 1), at(4, 3)), vec(at(6, 0), at(9, 1), at(2, 2), at(4, 3)), nil, nil, false,
		},
		{
			"a gap of one count",
			api.Note{Start: vec(at(1, 0)), End: vec(at(3, 0))},
			api.Note{Start: vec(at(4, 0)), End: vec(at(5, 0))},
			vec(at(4, 0)), vec(at(5, 0)), nil, nil, false,
		},
		{
			"over one another",
			api.Note{Start: vec(at(2, 0)), End: vec(at(6, 0)), Blur: set(to(1, 3)), Writes: row(put(4, 3, 0), put(5, 6, 0))},
			api.Note{Start: vec(at(4, 0)), End: vec(at(8, 0)), Blur: set(to(5, 9)), Writes: row(put(2, 7, 0), put(4, 8, 0))},
			vec(at(2, 0)), vec(at(8, 0)), set(to(1, 3), to(5, 9)), row(put(4, 8, 0)), false,
		},
		{
			"the second one begins ahead of the first one",
			api.Note{Start: vec(at(4, 0)), End: vec(at(6, 0))},
			api.Note{Start: vec(at(1, 0)), End: vec(at(8, 0))},
			vec(at(4, 0)), vec(at(8, 0)), nil, nil, false,
		},
		{
			"blurs that meet stand as one",
			api.Note{End: vec(at(2, 0)), Blur: set(to(1, 3), to(8, 8))},
			api.Note{End: vec(at(2, 0)), Blur: set(to(4, 7))},
			nil, vec(at(2, 0)), set(to(1, 8)), nil, true,
		},
		{
			"the same count of two nodes",
			api.Note{End: vec(at(2, 0), at(2, 1)), Writes: row(put(0, 2, 0), put(255, 2, 1))},
			api.Note{End: vec(at(2, 0), at(2, 1)), Writes: row(gone(0, 2, 1), gone(255, 2, 0))},
			nil, vec(at(2, 0), at(2, 1)), nil, row(gone(0, 2, 1), put(255, 2, 1)), true,
		},
		{
			"a greater count of a lower node",
			api.Note{End: vec(at(3, 0), at(2, 1)), Writes: row(put(7, 3, 0))},
			api.Note{End: vec(at(3, 0), at(2, 1)), Writes: row(gone(7, 2, 1))},
			nil, vec(at(3, 0), at(2, 1)), nil, row(put(7, 3, 0)), true,
		},
		{
			"the same stamp: as the first one has it",
			api.Note{End: vec(at(2, 0)), Writes: row(put(6, 2, 0), gone(7, 2, 0))},
			api.Note{End: vec(at(2, 0)), Writes: row(gone(6, 2, 0), put(7, 2, 0))},
			nil, vec(at(2, 0)), nil, row(put(6, 2, 0), gone(7, 2, 0)), false,
		},
		{
			"what the second one blurs isn't told, though the first one knew it",
			api.Note{End: vec(at(9, 0)), Writes: row(put(0, 9, 0), put(1, 8, 0), put(255, 1, 0))},
			api.Note{End: vec(at(2, 0)), Blur: set(to(0, 0), to(255, 255))},
			nil, vec(at(9, 0)), set(to(0, 0), to(255, 255)), row(put(1, 8, 0)), true,
		},
	} {
		want := api.Note{Start: c.start, End: c.end, Blur: c.blur, Writes: c.writes}
		if got, e := note.Merge(c.a, c.b); e != api.OK || !same(got, want) {
			t.Error(c.why, got, e)
		}
		if got, e := note.Merge(c.b, c.a); c.alsoBackwards && (e != api.OK || !same(got, want)) {
			t.Error(c.why, "the other way round", got, e)
		}
	}
}

// roomy: a copy of a note whose lists have spare room, filled with what would be seen if it were changed.
func roomy(n api.Note) api.Note {
	return api.Note{
		Start:  append(slices.Clone(n.Start), at(77, 7), at(0, -7))[:len(n.Start)],
		End:    append(slices.Clone(n.End), at(78, 7), at(-1, 64))[:len(n.End)],
		Blur:   append(slices.Clone(n.Blur), to(77, 70), to(-7, 300))[:len(n.Blur)],
		Writes: append(slices.Clone(n.Writes), put(300, 0, 99), gone(-1, 5, 5))[:len(n.Writes)],
	}
}

// whole: a note's lists with their spare room.
func whole(n api.Note) api.Note {
	return api.Note{Start: n.Start[:cap(n.Start)], End: n.End[:cap(n.End)], Blur: n.Blur[:cap(n.Blur)], Writes: n.Writes[:cap(n.Writes)]}
}

// kept: a copy of all that a note's lists hold, their spare room too.
func kept(n api.Note) api.Note {
	n = whole(n)
	return api.Note{Start: slices.Clone(n.Start), End: slices.Clone(n.End), Blur: slices.Clone(n.Blur), Writes: slices.Clone(n.Writes)}
}

// P1 (rule 5): what is handed in stays as it is, its spare room too.
func TestArgumentsStay(t *testing.T) {
	var notes []api.Note
	notes = append(notes, formedNotes()...)
	for _, w := range wrongNotes() {
		notes = append(notes, w.n)
	}
	for _, n := range notes {
		for _, m := range []api.Note{base(), everyObject(), n} {
			a, b := roomy(n), roomy(m)
			interest := append(set(to(250, 300), to(3, 9), to(0, 4)), to(5, 4), to(8, 8))[:3]
			known := append(slices.Clone(n.Start), at(77, 7), at(0, -7))[:len(n.Start)]
			wasA, wasB, wasInterest, wasKnown := kept(a), kept(b), slices.Clone(interest[:5]), slices.Clone(known[:cap(known)])
			note.Formed(a)
			note.Of(known, put(3, api.MaxCount, 9))
			note.Of(known, put(3, 1, 0))
			note.Fits(a, known)
			note.News(a, known)
			note.Told(a, 3)
			note.Through(a, interest)
			note.Merge(a, b)
			note.Merge(b, a)
			note.Merge(a, a)
			if !reflect.DeepEqual(kept(a), wasA) || !reflect.DeepEqual(kept(b), wasB) {
				t.Fatal("changed:", whole(a), whole(b))
			}
			if !slices.Equal(interest[:5], wasInterest) || !slices.Equal(known[:cap(known)], wasKnown) {
				t.Fatal("changed:", interest[:5], known[:cap(known)])
			}
		}
	}
}

// answers: all notes that are answered of two notes.
func answers(a, b api.Note) []api.Note {
	var list []api.Note
	add := func(n api.Note, e api.Errno) { list = append(list, n) }
	add(note.Of(a.End, put(3, 1, 9)))
	add(note.Of(nil, put(3, 1, 9)))
	add(note.Through(a, set(to(0, 255))))
	add(note.Through(a, set(to(0, 3))))
	add(note.Through(a, nil))
	add(note.Merge(a, b))
	add(note.Merge(b, a))
	add(note.Merge(a, a))
	add(note.Merge(a, api.Note{}))
	add(note.Merge(api.Note{}, a))
	return list
}

// scribbles: what overwrites one list of a note each, its spare room too.
func scribbles() []func(n api.Note) {
	return []func(n api.Note){
		func(n api.Note) { scribble(n.Start, at(-1, -1)) },
		func(n api.Note) { scribble(n.End, at(-2, -2)) },
		func(n api.Note) { scribble(n.Blur, to(-3, -3)) },
		func(n api.Note) { scribble(n.Writes, put(-4, -4, -4)) },
	}
}

func scribble[T any](list []T, x T) {
	for i := range list[:cap(list)] {
		list[:cap(list)][i] = x
	}
}

// others: a note without one of its lists.
func others(n api.Note, which int) api.Note {
	switch which {
	case 0:
		n.Start = nil
	case 1:
		n.End = nil
	case 2:
		n.Blur = nil
	case 3:
		n.Writes = nil
	}
	return n
}

// P1 (rule 5): what is answered shares no memory with an argument, nor with another answer, nor within itself.
func TestAnswersAreNewMemory(t *testing.T) {
	b := api.Note{Start: vec(at(6, 0)), End: vec(at(9, 0), at(1, 63)), Blur: set(to(21, 22)), Writes: row(put(3, 8, 0), put(40, 9, 0))}
	for _, a := range formedNotes() {
		wasA, wasB := kept(a), kept(b)
		want := answers(a, b)
		for i := range want {
			for which, scribbleOver := range scribbles() {
				got := answers(a, b)
				scribbleOver(got[i])
				if !reflect.DeepEqual(kept(a), wasA) || !reflect.DeepEqual(kept(b), wasB) {
					t.Fatal(i, which, "shares with an argument")
				}
				if !same(others(got[i], which), others(want[i], which)) {
					t.Fatal(i, which, "shares within itself")
				}
				for k := range want {
					if k != i && !same(got[k], want[k]) {
						t.Fatal(i, which, "shares with", k)
					}
				}
			}
		}
		for i, again := range answers(a, b) {
			if !same(again, want[i]) {
				t.Error("kept from call to call:", i, again)
			}
		}
	}
}
