package trust_test

import (
	"math"
	"math/rand"
	"reflect"
	"slices"
	"testing"

	"telltale/api"
	"telltale/note"
	"telltale/span"
	"telltale/trust"
	"telltale/vector"
)

func at(count, node int) api.Stamp { return api.Stamp{Count: count, Node: node} }

func to(lo, hi int) api.Span { return api.Span{Lo: lo, Hi: hi} }

// put: a write of an object.
func put(o, count, node int) api.Write { return api.Write{Stamp: at(count, node), Object: o} }

// upTo: the zone from lo to hi, up to a vector.
func upTo(lo, hi int, v ...api.Stamp) api.Zone { return api.Zone{Span: to(lo, hi), Vector: v} }

func vec(list ...api.Stamp) []api.Stamp { return list }

func set(list ...api.Span) []api.Span { return list }

func row(list ...api.Write) []api.Write { return list }

func zones(list ...api.Zone) []api.Zone { return list }

// sameZones: do two lists of zones say the same? A list that holds nothing may be nil or empty.
func sameZones(a, b []api.Zone) bool {
	return slices.EqualFunc(a, b, func(x, y api.Zone) bool {
		return x.Span == y.Span && slices.Equal(x.Vector, y.Vector)
	})
}

// counts: of each node.
type counts [64]int

// countsOf: those of a vector.
func countsOf(v []api.Stamp) counts {
	var c counts
	for _, s := range v {
		c[s.Node] = s.Count
	}
	return c
}

// list: the vector of these counts.
func (c counts) list() []api.Stamp {
	var v []api.Stamp
	for node, count := range c {
		if count > 0 {
			v = append(v, at(count, node))
		}
	}
	return v
}

// covers: is no count of d greater?
func (c counts) covers(d counts) bool {
	for node, count := range d {
		if count > c[node] {
			return false
		}
	}
	return true
}

// wordVector: what layer 2 asks of a vector.
func wordVector(v []api.Stamp) bool {
	for i, s := range v {
		if s.Count < 1 || s.Node < 0 || s.Node > 63 || i > 0 && v[i-1].Node >= s.Node {
			return false
		}
	}
	return true
}

// wordFormed: what the chapter asks of zones, of each one and of each two of them.
func wordFormed(z []api.Zone) bool {
	for i, x := range z {
		if x.Span.Lo < 0 || x.Span.Lo > 255 || x.Span.Hi < x.Span.Lo || x.Span.Hi > 255 || !wordVector(x.Vector) {
			return false
		}
		for _, y := range z[:i] {
			if y.Span.Lo >= x.Span.Lo || y.Span.Hi >= x.Span.Lo {
				return false
			}
			if y.Span.Hi == x.Span.Lo-1 && slices.Equal(x.Vector, y.Vector) {
				return false
			}
		}
	}
	return true
}

// isIn: is an object in any list of spans?
func isIn(l []api.Span, o int) bool {
	for _, s := range l {
		if o >= 0 && o <= 255 && o >= s.Lo && o <= s.Hi {
			return true
		}
	}
	return false
}

// zoneOf: the zone that an object is in.
func zoneOf(z []api.Zone, o int) (api.Zone, bool) {
	for _, x := range z {
		if o >= x.Span.Lo && o <= x.Span.Hi {
			return x, true
		}
	}
	return api.Zone{}, false
}

// wordReach: an object's reach.
func wordReach(z []api.Zone, known []api.Stamp, o int) counts {
	if x, in := zoneOf(z, o); in {
		return countsOf(x.Vector)
	}
	return countsOf(known)
}

// wordSince: the least counts of the reaches of all objects in an interest.
func wordSince(z []api.Zone, known []api.Stamp, interest []api.Span) counts {
	least, none := countsOf(known), true
	for o := range 256 {
		if !isIn(interest, o) {
			continue
		}
		reach := wordReach(z, known, o)
		for node := range least {
			if none || reach[node] < least[node] {
				least[node] = reach[node]
			}
		}
		none = false
	}
	return least
}

// wordStretched: a reach behind a note between two vectors, a write of whose object it may tell.
func wordStretched(reach, start, end counts, list []api.Write, o int) counts {
	out := reach
	for node := range out {
		if reach[node] >= start[node] && end[node] > reach[node] {
			out[node] = end[node]
		}
	}
	for _, w := range list {
		if w.Object == o && w.Stamp.Count > out[w.Stamp.Node] {
			return reach
		}
	}
	return out
}

// zonesWhere: the zones of the objects that are blurred, each up to what is said of it.
func zonesWhere(reach func(o int) (v []api.Stamp, blurred bool)) []api.Zone {
	var z []api.Zone
	for o := range 256 {
		v, blurred := reach(o)
		last := len(z) - 1
		switch {
		case !blurred:
		case last >= 0 && z[last].Span.Hi == o-1 && slices.Equal(z[last].Vector, v):
			z[last].Span.Hi = o
		default:
			z = append(z, upTo(o, o, v...))
		}
	}
	return z
}

// wordTake: zones and what is known behind a note, object by object.
func wordTake(z []api.Zone, known []api.Stamp, n api.Note) ([]api.Zone, []api.Stamp) {
	start, end, then := countsOf(n.Start), countsOf(n.End), countsOf(known)
	for node, count := range end {
		then[node] = max(then[node], count)
	}
	return zonesWhere(func(o int) ([]api.Stamp, bool) {
		reach := wordReach(z, known, o)
		if !isIn(n.Blur, o) {
			reach = wordStretched(reach, start, end, n.Writes, o)
		}
		if reach.covers(then) {
			return nil, false
		}
		return reach.list(), true
	}), then.list()
}

// everyZone: as many zones as there can be, with all nodes in each vector.
func everyZone() []api.Zone {
	return zonesWhere(func(o int) ([]api.Stamp, bool) {
		var v []api.Stamp
		for node := range 64 {
			v = append(v, at(1+(o*7+node)%5, node))
		}
		return v, true
	})
}

// formedZones: zones that are formed, up to their edges.
func formedZones() [][]api.Zone {
	evens := zonesWhere(func(o int) ([]api.Stamp, bool) { return vec(at(3, 1)), o%2 == 0 })
	turns := zonesWhere(func(o int) ([]api.Stamp, bool) { return vec(at(1+o%2, 63)), true })
	return [][]api.Zone{
		nil, {},
		{upTo(0, 255)},
		{upTo(0, 0)},
		{upTo(255, 255, at(api.MaxCount, 63))},
		{upTo(0, 0, at(1, 0)), upTo(255, 255, at(1, 0))},
		{upTo(0, 99, at(1, 0)), upTo(100, 255, at(2, 0))},
		{upTo(0, 99), upTo(100, 255, at(2, 0))},
		{upTo(0, 99, at(2, 0)), upTo(100, 255)},
		{upTo(3, 5), upTo(7, 9)},
		{upTo(3, 5, at(4, 1)), upTo(6, 6, at(4, 0)), upTo(7, 9, at(4, 1))},
		{upTo(3, 5, at(4, 1)), upTo(6, 9, at(4, 1), at(1, 2))},
		{upTo(3, 5, at(4, 1), at(1, 2)), upTo(6, 9, at(4, 1))},
		{upTo(3, 5, at(5, 1)), upTo(6, 9, at(4, 1)), upTo(11, 11, at(4, 1)), upTo(12, 254, at(api.MaxCount, 0), at(3, 1), at(api.MaxCount, 63))},
		evens, turns, everyZone(),
	}
}

// wrong: zones that aren't formed, and why.
type wrong struct {
	why string
	z   []api.Zone
}

// wrongZones: zones that aren't formed, in each of the ways that make them so.
func wrongZones() []wrong {
	var list []wrong
	add := func(why string, z ...api.Zone) { list = append(list, wrong{why, z}) }
	last := upTo(255, 255, at(9, 9))
	for _, s := range set(to(5, 4), to(-1, 0), to(-1, -1), to(255, 256), to(256, 256), to(0, math.MaxInt), to(math.MinInt, 255), to(math.MinInt, math.MaxInt), to(math.MaxInt, math.MinInt), to(math.MaxInt, math.MaxInt), to(math.MinInt, math.MinInt), to(255, 0)) {
		add("no span of objects", upTo(s.Lo, s.Hi))
		add("no span of objects, the first one", upTo(s.Lo, s.Hi, at(1, 0)), last)
		add("no span of objects, the last one", upTo(0, 0, at(1, 0)), upTo(s.Lo, s.Hi))
	}
	for _, v := range [][]api.Stamp{
		vec(at(0, 0)), vec(at(-1, 0)), vec(at(math.MinInt, 0)), vec(at(1, -1)), vec(at(1, 64)), vec(at(1, math.MinInt)), vec(at(1, math.MaxInt)),
		vec(at(2, 3), at(5, 0)), vec(at(5, 0), at(5, 0)), vec(at(5, 0), at(6, 0)), vec(at(5, 0), at(0, 3)), vec(at(5, 0), at(2, 3), at(1, 64)),
	} {
		add("no vector", upTo(3, 5, v...))
		add("no vector, the first one", upTo(3, 5, v...), last)
		add("no vector, the last one", upTo(0, 1), upTo(3, 5, v...))
		add("no vector, in the midst", upTo(0, 1), upTo(3, 5, v...), last)
	}
	add("out of order", upTo(5, 6), upTo(2, 3))
	add("out of order", upTo(5, 6, at(1, 0)), upTo(2, 4, at(2, 0)))
	add("out of order, the last ones", upTo(0, 0), upTo(8, 8), upTo(5, 5))
	add("twice", upTo(5, 6), upTo(5, 6))
	add("an object in two", upTo(5, 6, at(1, 0)), upTo(6, 7, at(2, 0)))
	add("an object in two", upTo(5, 5, at(1, 0)), upTo(5, 5, at(2, 0)))
	add("an object in two", upTo(5, 9, at(1, 0)), upTo(6, 7, at(2, 0)))
	add("an object in two", upTo(0, 255, at(1, 0)), upTo(255, 255, at(2, 0)))
	add("an object in two, the last ones", upTo(0, 0), upTo(5, 9, at(1, 0)), upTo(9, 9, at(2, 0)))
	add("one beside the other with the same vector", upTo(5, 6), upTo(7, 8))
	add("one beside the other with the same vector", upTo(5, 6, at(1, 0)), upTo(7, 8, at(1, 0)))
	add("one beside the other with the same vector", upTo(0, 254, at(1, 0), at(2, 63)), upTo(255, 255, at(1, 0), at(2, 63)))
	add("one beside the other with the same vector", api.Zone{Span: to(0, 0), Vector: vec()}, api.Zone{Span: to(1, 1)})
	add("one beside the other with the same vector, the last ones", upTo(0, 0), upTo(2, 2, at(1, 0)), upTo(3, 3, at(1, 0)))
	add("one beside the other with the same vector, the first ones", upTo(0, 0), upTo(1, 1), upTo(3, 3, at(1, 0)))
	all := everyZone()
	add("a zone more than there are objects", append(all, upTo(256, 256))...)
	add("a zone more than there are objects", append(slices.Clone(all), last)...)
	return list
}

// wrongVectors: lists of stamps that are no vectors.
func wrongVectors() [][]api.Stamp {
	return [][]api.Stamp{
		vec(at(0, 0)), vec(at(-1, 0)), vec(at(1, 64)), vec(at(1, -1)), vec(at(math.MinInt, math.MaxInt)),
		vec(at(2, 3), at(5, 0)), vec(at(5, 0), at(5, 0)), vec(at(5, 0), at(6, 0)), vec(at(5, 0), at(0, 3)), vec(at(5, 0), at(1, 64)),
	}
}

// numbers: all objects, and whole numbers that are none.
func numbers() []int {
	list := []int{math.MinInt, -256, -1, 256, 257, 511, math.MaxInt, 1 << 32}
	for o := range 256 {
		list = append(list, o)
	}
	return list
}

// interests: lists of spans, sets and not.
func interests() [][]api.Span {
	return [][]api.Span{
		nil, set(), set(to(0, 255)), set(to(0, 0)), set(to(255, 255)), set(to(4, 4)), set(to(6, 6)), set(to(0, 99)), set(to(100, 255)), set(to(1, 254)), set(to(3, 5)), set(to(0, 0), to(255, 255)),
		set(to(255, 300), to(-7, 0)), set(to(4, 3)), set(to(256, 999)), set(to(-9, -1)), set(to(20, 30), to(3, 25), to(3, 25)), set(to(math.MinInt, math.MaxInt)), set(to(math.MaxInt, math.MinInt)), set(to(9, 8), to(10, 11), to(5, 5)),
	}
}

// nothing: are zones and what is known beside an error as they must be?
func nothing(z []api.Zone, known []api.Stamp) bool { return len(z) == 0 && len(known) == 0 }

// P10.1: Formed, of what is formed and of what isn't in each of the ways.
func TestFormed(t *testing.T) {
	for _, z := range formedZones() {
		if !wordFormed(z) {
			t.Fatal("the test's own words differ:", z)
		}
		if !trust.Formed(z) {
			t.Error("is formed:", z)
		}
	}
	for _, w := range wrongZones() {
		if wordFormed(w.z) {
			t.Fatal("the test's own words differ:", w.why, w.z)
		}
		if trust.Formed(w.z) {
			t.Error("isn't formed:", w.why, w.z)
		}
	}
}

// anyZones: all lists of up to so many zones from a pool of right and wrong ones.
func anyZones(most int) [][]api.Zone {
	var pool []api.Zone
	for _, s := range set(to(0, 0), to(0, 1), to(1, 1), to(2, 254), to(3, 3), to(4, 255), to(255, 255), to(-1, 0), to(255, 256), to(2, 1)) {
		for _, v := range [][]api.Stamp{nil, vec(at(2, 0)), vec(at(2, 0), at(1, 63)), vec(at(2, 63), at(2, 0))} {
			pool = append(pool, upTo(s.Lo, s.Hi, v...))
		}
	}
	all := [][]api.Zone{nil}
	for from := 0; len(all[from]) < most; from++ {
		for _, x := range pool {
			all = append(all, append(slices.Clone(all[from]), x))
		}
	}
	return all
}

// P10.1: Formed of any zones, right or wrong in any number of ways at once; and that all calls go by it.
func TestFormedOfAnyZones(t *testing.T) {
	formed, known := 0, vec(at(3, 0), at(3, 63))
	for _, z := range anyZones(3) {
		want := wordFormed(z)
		if trust.Formed(z) != want {
			t.Fatal(z, "formed:", !want)
		}
		if want {
			formed++
			continue
		}
		if got := trust.Blurred(z); len(got) > 0 {
			t.Fatal("blurred:", z, got)
		}
		if got := trust.Reach(z, known, 100); len(got) > 0 {
			t.Fatal("reach:", z, got)
		}
		if got := trust.Since(z, known, nil); len(got) > 0 {
			t.Fatal("since:", z, got)
		}
		if after, then, e := trust.Take(z, known, api.Note{}); !nothing(after, then) || e != api.ErrArg {
			t.Fatal("taken:", z, after, then, e)
		}
	}
	if formed < 300 {
		t.Error(formed)
	}
}

// P10.1: Blurred, of all zones that are formed.
func TestBlurred(t *testing.T) {
	for _, z := range append(formedZones(), anyZones(2)...) {
		if !wordFormed(z) {
			continue
		}
		got := trust.Blurred(z)
		if !span.Formed(got) {
			t.Fatal(z, "blurred:", got)
		}
		for _, o := range numbers() {
			if _, in := zoneOf(z, o); isIn(got, o) != in {
				t.Fatal(z, "blurred:", got, "of", o)
			}
		}
	}
	for _, w := range wrongZones() {
		if got := trust.Blurred(w.z); len(got) > 0 {
			t.Error("blurred:", w.why, w.z, got)
		}
	}
	beside := zones(upTo(3, 5, at(4, 1)), upTo(6, 6), upTo(8, 9), upTo(10, 12, at(1, 0)))
	if got := trust.Blurred(beside); !slices.Equal(got, set(to(3, 6), to(8, 12))) {
		t.Error("zones beside one another are one span:", got)
	}
}

// knowns: vectors that may be known beside any zones: ahead of them, behind them and apart.
func knowns() [][]api.Stamp {
	full := counts{}
	for node := range full {
		full[node] = 100 + node
	}
	return [][]api.Stamp{nil, vec(), vec(at(5, 0)), vec(at(4, 0), at(4, 1)), vec(at(1, 1), at(api.MaxCount, 63)), full.list()}
}

// P10.1: Reach, of each object and of what is none.
func TestReach(t *testing.T) {
	for _, z := range formedZones() {
		for _, known := range knowns() {
			for _, o := range numbers() {
				var want []api.Stamp
				if o >= 0 && o <= 255 {
					want = wordReach(z, known, o).list()
				}
				if got := trust.Reach(z, known, o); !slices.Equal(got, want) {
					t.Fatal(z, known, "reach of", o, got)
				}
			}
		}
		for _, known := range wrongVectors() {
			for _, o := range []int{-1, 0, 4, 255, 256} {
				if got := trust.Reach(z, known, o); len(got) > 0 {
					t.Error(z, "no vector is known:", known, "reach of", o, got)
				}
			}
		}
	}
	for _, w := range wrongZones() {
		for _, o := range []int{-1, 0, 4, 100, 255, 256} {
			if got := trust.Reach(w.z, vec(at(5, 0)), o); len(got) > 0 {
				t.Error(w.why, w.z, "reach of", o, got)
			}
		}
	}
}

// P10.1: Since, of any list of spans.
func TestSince(t *testing.T) {
	for _, z := range formedZones() {
		for _, interest := range interests() {
			for _, known := range knowns() {
				if got := trust.Since(z, known, interest); !slices.Equal(got, wordSince(z, known, interest).list()) {
					t.Fatal(z, known, "since of", interest, got)
				}
			}
			for _, known := range wrongVectors() {
				if got := trust.Since(z, known, interest); len(got) > 0 {
					t.Error(z, "no vector is known:", known, "since of", interest, got)
				}
			}
		}
	}
	for _, w := range wrongZones() {
		for _, interest := range interests() {
			if got := trust.Since(w.z, vec(at(5, 0)), interest); len(got) > 0 {
				t.Error(w.why, w.z, "since of", interest, got)
			}
		}
	}
}

// P10.1: Since of some, told by hand.
func TestSinceExamples(t *testing.T) {
	known := vec(at(9, 0), at(3, 1))
	z := zones(upTo(3, 5, at(7, 0), at(3, 1)), upTo(6, 9, at(9, 0), at(1, 1)), upTo(11, 255, at(20, 0), at(5, 2)))
	for _, c := range []struct {
		interest []api.Span
		want     []api.Stamp
	}{
		{nil, known},
		{set(to(256, 300)), known},
		{set(to(0, 2)), known},
		{set(to(10, 10)), known},
		{set(to(4, 4)), vec(at(7, 0), at(3, 1))},
		{set(to(2, 3)), vec(at(7, 0), at(3, 1))},
		{set(to(5, 6)), vec(at(7, 0), at(1, 1))},
		{set(to(9, 9), to(10, 10)), vec(at(9, 0), at(1, 1))},
		{set(to(200, 201)), vec(at(20, 0), at(5, 2))},
		{set(to(10, 11)), vec(at(9, 0))},
		{set(to(255, 255), to(3, 3)), vec(at(7, 0))},
		{set(to(0, 255)), vec(at(7, 0))},
	} {
		if got := trust.Since(z, known, c.interest); !slices.Equal(got, c.want) {
			t.Error("since of", c.interest, got)
		}
	}
	if got := trust.Since(zones(upTo(0, 0), upTo(9, 9, at(8, 0))), known, set(to(0, 255))); len(got) > 0 {
		t.Error("up to nothing:", got)
	}
}

// goodNote: a note that fits what goodKnown knows, with something of all in it.
func goodNote() api.Note {
	return api.Note{
		Start:  vec(at(5, 0), at(2, 3)),
		End:    vec(at(6, 0), at(4, 1), at(2, 3), at(api.MaxCount, 63)),
		Blur:   set(to(1, 2), to(10, 20), to(254, 254)),
		Writes: row(put(0, 6, 0), put(3, 4, 1), put(21, api.MaxCount, 63), put(255, 1, 1)),
	}
}

func goodKnown() []api.Stamp { return vec(at(5, 0), at(2, 3), at(8, 7)) }

// wrongNotes: notes that aren't formed.
func wrongNotes() []api.Note {
	var list []api.Note
	add := func(change func(n *api.Note)) {
		n := goodNote()
		change(&n)
		list = append(list, n)
	}
	for _, v := range wrongVectors() {
		add(func(n *api.Note) { n.Start = v })
		add(func(n *api.Note) { n.Start, n.End, n.Writes = nil, v, nil })
	}
	add(func(n *api.Note) { n.Start = vec(at(7, 0)) })
	add(func(n *api.Note) { n.Start = vec(at(1, 9)) })
	add(func(n *api.Note) { n.Blur = set(to(9, 8)) })
	add(func(n *api.Note) { n.Blur = set(to(30, 31), to(32, 33)) })
	add(func(n *api.Note) { n.Blur = set(to(100, 256)) })
	add(func(n *api.Note) { n.Writes[0].Object = 1 })
	add(func(n *api.Note) { n.Writes[0].Object = -1 })
	add(func(n *api.Note) { n.Writes[3].Object = 256 })
	add(func(n *api.Note) { n.Writes[1].Object = 0 })
	add(func(n *api.Note) { n.Writes[0].Stamp = at(7, 0) })
	add(func(n *api.Note) { n.Writes[0].Stamp = at(0, 0) })
	add(func(n *api.Note) { n.Writes[0].Stamp = at(1, 64) })
	return list
}

// P10.1: what isn't formed is ErrArg, ahead of a gap; a note that doesn't fit is ErrGap; beside both nothing is answered.
func TestTakeRefuses(t *testing.T) {
	good := zones(upTo(3, 5, at(4, 0)), upTo(6, 8))
	far := api.Note{Start: vec(at(6, 0)), End: vec(at(6, 0))}
	refused := func(why string, want api.Errno, z []api.Zone, known []api.Stamp, n api.Note) {
		t.Helper()
		if after, then, e := trust.Take(z, known, n); !nothing(after, then) || e != want {
			t.Error(why, z, known, n, after, then, e)
		}
	}
	for _, n := range []api.Note{{}, goodNote(), far} {
		for _, w := range wrongZones() {
			refused(w.why, api.ErrArg, w.z, goodKnown(), n)
		}
		for _, known := range wrongVectors() {
			refused("no vector is known", api.ErrArg, good, known, n)
		}
	}
	for _, known := range append([][]api.Stamp{goodKnown(), nil}, wrongVectors()...) {
		for _, n := range wrongNotes() {
			refused("no note", api.ErrArg, good, known, n)
			refused("no note", api.ErrArg, nil, known, n)
			refused("no note, no zones", api.ErrArg, zones(upTo(5, 4)), known, n)
		}
	}
	for _, z := range formedZones() {
		refused("a gap", api.ErrGap, z, goodKnown(), far)
		refused("a gap", api.ErrGap, z, nil, far)
		refused("a gap of one node", api.ErrGap, z, vec(at(9, 0), at(1, 3)), goodNote())
		refused("a gap of one node", api.ErrGap, z, vec(at(4, 0), at(9, 3)), goodNote())
		refused("a gap of another node", api.ErrGap, z, vec(at(9, 0), at(9, 2)), goodNote())
		refused("a gap of all", api.ErrGap, z, vec(at(9, 9)), goodNote())
	}
}

// checkTake: a note that fits, taken, against the document's words and the promises.
func checkTake(t *testing.T, z []api.Zone, known []api.Stamp, n api.Note) ([]api.Zone, []api.Stamp) {
	t.Helper()
	wantZ, wantKnown := wordTake(z, known, n)
	after, then, e := trust.Take(z, known, n)
	if e != api.OK || !sameZones(after, wantZ) || !slices.Equal(then, wantKnown) {
		t.Fatal(z, known, n, "taken:", after, then, e, "asked for:", wantZ, wantKnown)
	}
	if !trust.Formed(after) || !wordFormed(after) || !vector.Formed(then) {
		t.Fatal(z, known, n, "taken, isn't formed:", after, then)
	}
	again, once, e := trust.Take(after, then, n)
	if e != api.OK || !sameZones(again, after) || !slices.Equal(once, then) {
		t.Fatal(z, known, n, "taken twice:", again, once, e, "once:", after, then)
	}
	checkSharp(t, z, n, after)
	return after, then
}

// checkSharp: what is sharp and isn't blurred stays so.
func checkSharp(t *testing.T, z []api.Zone, n api.Note, after []api.Zone) {
	t.Helper()
	if left := span.Less(trust.Blurred(after), n.Blur); !span.Covers(trust.Blurred(z), left) {
		t.Fatal(z, n, "were sharp:", after)
	}
}

// checkMadeSharp: a note that begins where an interest's reaches do, or ahead, and ends where all ends that is known, makes all of it sharp but what it blurs.
func checkMadeSharp(t *testing.T, z []api.Zone, known []api.Stamp, n api.Note, interest []api.Span) bool {
	t.Helper()
	if !vector.Covers(trust.Since(z, known, interest), n.Start) || !vector.Covers(n.End, known) || !note.Fits(n, known) {
		return false
	}
	after, _, e := trust.Take(z, known, n)
	if e != api.OK || !span.Covers(n.Blur, span.Meet(trust.Blurred(after), interest)) {
		t.Fatal(z, known, n, "isn't all sharp of", interest, after, e)
	}
	return true
}

// small: the vectors of two nodes with counts up to 2.
func small() [][]api.Stamp {
	var all [][]api.Stamp
	for i := range 3 {
		for j := range 3 {
			all = append(all, vector.Join(vec(at(i, 0)), vec(at(j, 63))))
		}
	}
	return all
}

// smallZones: all zones of some objects, each of these sharp or up to one of the small vectors.
func smallZones(objects ...int) [][]api.Zone {
	reaches := map[int][]api.Stamp{}
	var all [][]api.Zone
	var ways func(i int)
	ways = func(i int) {
		if i == len(objects) {
			all = append(all, zonesWhere(func(o int) ([]api.Stamp, bool) {
				v, blurred := reaches[o]
				return v, blurred
			}))
			return
		}
		ways(i + 1)
		for _, v := range small() {
			reaches[objects[i]] = v
			ways(i + 1)
		}
		delete(reaches, objects[i])
	}
	ways(0)
	return all
}

// smallNotes: all formed notes between small vectors that speak of some objects.
func smallNotes(objects ...int) []api.Note {
	var all []api.Note
	var ways func(n api.Note, blurred []int, i int)
	ways = func(n api.Note, blurred []int, i int) {
		if i == len(objects) {
			n.Blur = span.Of(blurred...)
			all = append(all, n)
			return
		}
		o := objects[i]
		ways(n, blurred, i+1)
		ways(n, append(slices.Clone(blurred), o), i+1)
		for _, s := range n.End {
			for c := 1; c <= s.Count; c++ {
				written := n
				written.Writes = append(slices.Clone(n.Writes), put(o, c, s.Node))
				ways(written, blurred, i+1)
			}
		}
	}
	for _, end := range small() {
		for _, start := range small() {
			if vector.Covers(end, start) {
				ways(api.Note{Start: start, End: end}, nil, 0)
			}
		}
	}
	return all
}

// P10.1 to P10.3: Take of a small world: one object, whole.
func TestTakeOfOneObject(t *testing.T) {
	seen := 0
	for _, o := range []int{0, 255} {
		for _, z := range smallZones(o) {
			for _, n := range smallNotes(o) {
				for _, known := range small() {
					if note.Fits(n, known) {
						checkTake(t, z, known, n)
					}
					if checkMadeSharp(t, z, known, n, set(to(o, o))) {
						seen++
					}
				}
			}
		}
	}
	if seen < 1000 {
		t.Error(seen)
	}
}

// chance: things made by a row of numbers that is the same each time.
type chance struct{ *rand.Rand }

// vector: of some of the nodes up to most, with counts up to 4.
func (c chance) vector(nodes int) []api.Stamp {
	var v counts
	for node := range nodes {
		v[63-node] = max(0, c.Intn(7)-2)
	}
	return v.list()
}

// zones: spans of any length, up to one of a few vectors.
func (c chance) zones(nodes int) []api.Zone {
	few := [][]api.Stamp{c.vector(nodes), c.vector(nodes), c.vector(nodes)}
	way, longest := 0, 1+c.Intn(60)
	return zonesWhere(func(o int) ([]api.Stamp, bool) {
		if c.Intn(longest) == 0 {
			way = c.Intn(len(few) + 1)
		}
		if way == len(few) {
			return nil, false
		}
		return few[way], true
	})
}

// note: one that is formed: blurs and writes of any objects.
func (c chance) note(nodes int) api.Note {
	end := c.vector(nodes)
	n := api.Note{Start: vector.Meet(end, c.vector(nodes)), End: end}
	blurs, writes := c.Intn(5)*c.Intn(20), c.Intn(5)*c.Intn(20)
	var blurred []int
	for o := range 256 {
		switch roll := c.Intn(100); {
		case roll < blurs:
			blurred = append(blurred, o)
		case roll < blurs+writes && len(end) > 0:
			s := end[c.Intn(len(end))]
			n.Writes = append(n.Writes, put(o, 1+c.Intn(s.Count), s.Node))
		}
	}
	n.Blur = span.Of(blurred...)
	return n
}

// P10.1 to P10.3: Take of a small world: objects that stand beside one another, and some that don't; in part, by chance.
func TestTakeOfSomeObjects(t *testing.T) {
	c := chance{rand.New(rand.NewSource(3))}
	for _, objects := range [][]int{{0, 1}, {127, 128, 129}, {254, 255}, {3, 5}} {
		zonesOf, notes, seen := smallZones(objects...), smallNotes(objects...), 0
		for range 12000 {
			z, n, known := zonesOf[c.Intn(len(zonesOf))], notes[c.Intn(len(notes))], small()[c.Intn(9)]
			if note.Fits(n, known) {
				checkTake(t, z, known, n)
				seen++
			}
			checkMadeSharp(t, z, known, n, span.Of(objects...))
			checkMadeSharp(t, z, known, n, span.Of(objects[0]))
		}
		if seen < 4000 {
			t.Error(objects, seen)
		}
	}
}

// P10.1 to P10.3: Take of many: zones, notes and vectors of all sizes, one note upon the other.
func TestTakeOfMany(t *testing.T) {
	c := chance{rand.New(rand.NewSource(10))}
	taken, made := 0, 0
	for range 800 {
		nodes := 1 + c.Intn(4)*c.Intn(22)
		z, known := c.zones(nodes), c.vector(nodes)
		for range 6 {
			n := c.note(nodes)
			if c.Intn(3) == 0 {
				n.Start = vector.Meet(n.Start, known)
			}
			if c.Intn(4) == 0 {
				n.End = vector.Join(n.End, known)
			}
			if checkMadeSharp(t, z, known, n, c.around(z)) {
				made++
			}
			if !note.Fits(n, known) {
				if after, then, e := trust.Take(z, known, n); !nothing(after, then) || e != api.ErrGap {
					t.Fatal(z, known, n, after, then, e)
				}
				continue
			}
			z, known = checkTake(t, z, known, n)
			taken++
		}
	}
	if taken < 1500 || made < 150 {
		t.Error(taken, made)
	}
}

// around: an interest in some objects, zones or a part of them among these.
func (c chance) around(z []api.Zone) []api.Span {
	l := set(to(c.Intn(256), c.Intn(256)))
	if len(z) > 0 {
		x := z[c.Intn(len(z))].Span
		l = append(l, to(x.Lo-c.Intn(2), x.Hi+c.Intn(2)))
	}
	return l
}

// P10.1, P10.2: Take over as many zones, writes and nodes as there can be.
func TestTakeOfAll(t *testing.T) {
	var low, high counts
	for node := range low {
		low[node], high[node] = 1, api.MaxCount-node
	}
	var writes []api.Write
	for o := range 256 {
		writes = append(writes, put(o, 1+o%7, o%64))
	}
	for _, z := range formedZones() {
		for _, n := range []api.Note{
			{End: high.list()},
			{End: high.list(), Writes: writes},
			{Start: low.list(), End: high.list(), Writes: writes},
			{Start: low.list(), End: high.list(), Blur: set(to(0, 255))},
			{Start: low.list(), End: low.list(), Blur: set(to(0, 0), to(255, 255))},
			{End: vec(at(2, 0), at(7, 63)), Blur: set(to(0, 127)), Writes: row(put(128, 7, 63), put(255, 1, 0))},
		} {
			for _, known := range [][]api.Stamp{low.list(), high.list()} {
				checkTake(t, z, known, n)
			}
		}
	}
}

// taking: a note that is taken, and what is asked for behind it.
type taking struct {
	why   string
	z     []api.Zone
	known []api.Stamp
	n     api.Note
	after []api.Zone
	then  []api.Stamp
}

// examples: the document's, and the edges that it names, told by hand.
func examples() []taking {
	first := api.Note{End: vec(at(1, 0)), Blur: set(to(3, 5))}
	second := api.Note{Start: vec(at(1, 0)), End: vec(at(2, 0)), Writes: row(put(4, 2, 0))}
	third := api.Note{Start: vec(at(1, 0)), End: vec(at(1, 0), at(1, 1)), Writes: row(put(4, 1, 1))}
	blurred, both := zones(upTo(3, 5)), vec(at(1, 0), at(1, 1))
	quiet := api.Note{End: vec(at(1, 0))}
	return []taking{
		{"a note that blurs", nil, nil, first, blurred, vec(at(1, 0))},
		{"a write behind what the object lacks", blurred, vec(at(1, 0)), second, blurred, vec(at(2, 0))},
		{"a write of another node", blurred, vec(at(1, 0)), third, zones(upTo(3, 5, at(1, 1))), both},
		{"all is told anew", zones(upTo(3, 5, at(1, 1))), both, api.Note{End: vec(at(2, 0), at(1, 1))}, nil, vec(at(2, 0), at(1, 1))},
		{"nothing at all", nil, nil, api.Note{}, nil, nil},
		{"nothing, of zones", blurred, vec(at(1, 0)), api.Note{}, blurred, vec(at(1, 0))},
		{"what was blurred is told", blurred, vec(at(1, 0)), quiet, nil, vec(at(1, 0))},
		{"what was blurred is blurred again", blurred, vec(at(1, 0)), first, blurred, vec(at(1, 0))},
		{"a blur of nothing new blurs nothing", nil, vec(at(1, 0)), first, nil, vec(at(1, 0))},
		{"a blur of the start alone blurs nothing", nil, vec(at(1, 0)), api.Note{Start: vec(at(1, 0)), End: vec(at(1, 0)), Blur: set(to(0, 255))}, nil, vec(at(1, 0))},
		{"a part is told", blurred, vec(at(1, 0)), api.Note{End: vec(at(1, 0)), Blur: set(to(4, 4))}, zones(upTo(4, 4)), vec(at(1, 0))},
		{"zones are parted", zones(upTo(0, 255)), vec(at(1, 0), at(1, 1)), api.Note{End: vec(at(1, 0)), Blur: set(to(4, 6))}, zones(upTo(0, 3, at(1, 0)), upTo(4, 6), upTo(7, 255, at(1, 0))), vec(at(1, 0), at(1, 1))},
		{"zones become one", zones(upTo(0, 3, at(1, 0)), upTo(4, 6), upTo(7, 255, at(1, 0))), both, quiet, zones(upTo(0, 255, at(1, 0))), both},
		{"a blur beside a zone of another reach", zones(upTo(3, 5, at(1, 0))), both, api.Note{Start: both, End: vec(at(2, 0), at(1, 1)), Blur: set(to(3, 7))}, zones(upTo(3, 5, at(1, 0)), upTo(6, 7, both...)), vec(at(2, 0), at(1, 1))},
		{"a blur beside a zone of the same reach", zones(upTo(3, 5, both...)), both, api.Note{Start: both, End: vec(at(2, 0), at(1, 1)), Blur: set(to(0, 7))}, zones(upTo(0, 7, both...)), vec(at(2, 0), at(1, 1))},
		{"sharp ones are up to what was known", nil, both, api.Note{Start: vec(at(1, 0)), End: vec(at(3, 0), at(1, 2)), Blur: set(to(0, 0), to(255, 255))}, zones(upTo(0, 0, both...), upTo(255, 255, both...)), vec(at(3, 0), at(1, 1), at(1, 2))},
		{"an older note takes nothing away", zones(upTo(9, 9, at(5, 0))), vec(at(7, 0)), api.Note{Start: vec(at(1, 0)), End: vec(at(3, 0))}, zones(upTo(9, 9, at(5, 0))), vec(at(7, 0))},
		{"node by node: up to the start, and one short of it", zones(upTo(9, 9, at(2, 0), at(2, 1), at(4, 2))), vec(at(3, 0), at(3, 1), at(4, 2)), api.Note{Start: vec(at(3, 0), at(2, 1), at(1, 2)), End: vec(at(9, 0), at(9, 1), at(3, 2), at(9, 3))}, zones(upTo(9, 9, at(2, 0), at(9, 1), at(4, 2), at(9, 3))), vec(at(9, 0), at(9, 1), at(4, 2), at(9, 3))},
		{"a write that hangs in the air holds all nodes", zones(upTo(8, 9, at(2, 0), at(2, 1))), vec(at(3, 0), at(3, 1)), api.Note{Start: vec(at(3, 0), at(2, 1)), End: vec(at(9, 0), at(9, 1)), Writes: row(put(8, 9, 0))}, zones(upTo(8, 8, at(2, 0), at(2, 1)), upTo(9, 9, at(2, 0), at(9, 1))), vec(at(9, 0), at(9, 1))},
		{"a write that the reach had already", zones(upTo(8, 9, at(2, 0), at(2, 1))), vec(at(3, 0), at(3, 1)), api.Note{Start: vec(at(3, 0), at(2, 1)), End: vec(at(9, 0), at(9, 1)), Writes: row(put(8, 2, 0))}, zones(upTo(8, 9, at(2, 0), at(9, 1))), vec(at(9, 0), at(9, 1))},
		{"a write one behind what the reach has", zones(upTo(8, 9, at(2, 0), at(2, 1))), vec(at(3, 0), at(3, 1)), api.Note{Start: vec(at(3, 0), at(2, 1)), End: vec(at(9, 0), at(9, 1)), Writes: row(put(9, 3, 0))}, zones(upTo(8, 8, at(2, 0), at(9, 1)), upTo(9, 9, at(2, 0), at(2, 1))), vec(at(9, 0), at(9, 1))},
		{"a zone up to more than is known, and then isn't", zones(upTo(1, 2, at(7, 0))), vec(at(5, 0)), api.Note{Start: vec(at(5, 0)), End: vec(at(6, 0)), Blur: set(to(2, 3))}, zones(upTo(3, 3, at(5, 0))), vec(at(6, 0))},
		{"a zone up to more than is known, apart", zones(upTo(1, 2, at(7, 4))), vec(at(5, 0)), api.Note{Start: vec(at(5, 0)), End: vec(at(6, 0)), Blur: set(to(2, 3))}, zones(upTo(1, 2, at(7, 4)), upTo(3, 3, at(5, 0))), vec(at(6, 0))},
		{"the greatest count", zones(upTo(255, 255)), vec(at(api.MaxCount-1, 63)), api.Note{Start: vec(at(api.MaxCount-1, 63)), End: vec(at(api.MaxCount, 63)), Writes: row(put(255, api.MaxCount, 63))}, zones(upTo(255, 255)), vec(at(api.MaxCount, 63))},
		{"two nodes at once", nil, nil, api.Note{End: vec(at(2, 0), at(1, 1))}, nil, vec(at(2, 0), at(1, 1))},
	}
}

// P10.1 to P10.3: the document's examples, and the edges that it names.
func TestTakeExamples(t *testing.T) {
	for _, c := range examples() {
		after, then, e := trust.Take(c.z, c.known, c.n)
		if e != api.OK || !sameZones(after, c.after) || !slices.Equal(then, c.then) {
			t.Error(c.why, after, then, e)
		}
		checkTake(t, c.z, c.known, c.n)
	}
}

// P10.2: a note that is taken once more behind others that came since takes nothing away, and adds nothing that was sharp.
func TestSharpForGood(t *testing.T) {
	n := api.Note{Start: vec(at(1, 0)), End: vec(at(2, 0)), Writes: row(put(4, 2, 0))}
	z, known := checkTake(t, nil, vec(at(1, 0)), n)
	for c := 3; c < 40; c++ {
		z, known = checkTake(t, z, known, api.Note{Start: vec(at(c-1, 0)), End: vec(at(c, 0)), Writes: row(put(c, c, 0))})
		z, known = checkTake(t, z, known, n)
		if len(z) > 0 || !slices.Equal(known, vec(at(c, 0))) {
			t.Fatal(c, z, known)
		}
	}
}

// P1 (rule 1): lists as long as they like end soon.
func TestLongLists(t *testing.T) {
	many := make([]api.Span, 1<<20)
	for i := range many {
		many[i] = to(i, i+i%3-1)
	}
	long := make([]api.Zone, 1<<20)
	for i := range long {
		long[i] = upTo(i, i, at(1+i%2, 0))
	}
	if got := trust.Since(everyZone(), goodKnown(), many); !slices.Equal(got, wordSince(everyZone(), goodKnown(), set(to(1, 255))).list()) {
		t.Error(got)
	}
	if trust.Formed(long) || !trust.Formed(long[:256]) {
		t.Error("long zones")
	}
	if got := trust.Blurred(long[:256]); !slices.Equal(got, set(to(0, 255))) {
		t.Error(got)
	}
	tall := make([]api.Stamp, 1<<20)
	for i := range tall {
		tall[i] = at(1, i)
	}
	if got := trust.Reach(nil, tall, 3); len(got) > 0 {
		t.Error(got)
	}
	if got := trust.Reach(nil, tall[:64], 3); !slices.Equal(got, tall[:64]) {
		t.Error(got)
	}
}

// roomy: a copy of a list with spare room, filled with what would be seen if it were changed.
func roomy[T any](list []T, fill ...T) []T {
	return append(slices.Clone(list), fill...)[:len(list)]
}

// roomyZones: a copy of zones, each list with spare room.
func roomyZones(z []api.Zone) []api.Zone {
	out := roomy(z, upTo(9, 8, at(-9, 9)), upTo(-7, 300))
	for i, x := range out {
		out[i].Vector = roomy(x.Vector, at(77, 7), at(0, -7))
	}
	return out
}

func roomyNote(n api.Note) api.Note {
	return api.Note{
		Start:  roomy(n.Start, at(77, 7), at(0, -7)),
		End:    roomy(n.End, at(78, 7), at(-1, 64)),
		Blur:   roomy(n.Blur, to(77, 70), to(-7, 300)),
		Writes: roomy(n.Writes, put(300, 0, 99), put(-1, 5, 5)),
	}
}

// whole: a copy of all that a list holds, its spare room too.
func whole[T any](list []T) []T { return slices.Clone(list[:cap(list)]) }

func wholeZones(z []api.Zone) []api.Zone {
	out := whole(z)
	for i, x := range out {
		out[i].Vector = whole(x.Vector)
	}
	return out
}

func wholeNote(n api.Note) api.Note {
	return api.Note{Start: whole(n.Start), End: whole(n.End), Blur: whole(n.Blur), Writes: whole(n.Writes)}
}

// P1 (rule 5): what is handed in stays as it is, its spare room too.
func TestArgumentsStay(t *testing.T) {
	lists := formedZones()
	for _, w := range wrongZones() {
		lists = append(lists, w.z)
	}
	for _, c := range examples() {
		lists = append(lists, c.z)
	}
	notes := append(wrongNotes(), goodNote(), api.Note{}, api.Note{End: vec(at(1, 0)), Blur: set(to(3, 5))}, api.Note{Start: vec(at(99, 60)), End: vec(at(99, 60))})
	for i, list := range lists {
		for k, n := range notes {
			z, known, n := roomyZones(list), roomy(goodKnown(), at(77, 7), at(0, -7)), roomyNote(n)
			interest := roomy(interests()[(i+k)%len(interests())], to(5, 4), to(8, 8))
			wasZ, wasKnown, wasNote, wasInterest := wholeZones(z), whole(known), wholeNote(n), whole(interest)
			trust.Formed(z)
			trust.Blurred(z)
			trust.Reach(z, known, 4)
			trust.Reach(z, known, 255)
			trust.Since(z, known, interest)
			trust.Take(z, known, n)
			if !reflect.DeepEqual(wholeZones(z), wasZ) || !slices.Equal(whole(known), wasKnown) {
				t.Fatal("changed:", z, known)
			}
			if !reflect.DeepEqual(wholeNote(n), wasNote) || !slices.Equal(whole(interest), wasInterest) {
				t.Fatal("changed:", n, interest)
			}
		}
	}
}

// answer: all that is answered beside some arguments.
type answer struct {
	sets    [][]api.Span
	vectors [][]api.Stamp
	zones   [][]api.Zone
}

// answers: by each call, twice.
func answers(c taking) answer {
	var a answer
	for range 2 {
		a.sets = append(a.sets, trust.Blurred(c.z))
		for _, o := range []int{0, 3, 4, 8, 9, 255} {
			a.vectors = append(a.vectors, trust.Reach(c.z, c.known, o))
		}
		for _, interest := range interests() {
			a.vectors = append(a.vectors, trust.Since(c.z, c.known, interest))
		}
		after, then, _ := trust.Take(c.z, c.known, c.n)
		a.zones, a.vectors = append(a.zones, after), append(a.vectors, then)
	}
	return a
}

// scribbles: what overwrites one list of an answer each, its spare room too.
func (a answer) scribbles() []func() {
	var list []func()
	for _, l := range a.sets {
		list = append(list, func() { scribble(l, to(-3, -3)) })
	}
	for _, l := range a.vectors {
		list = append(list, func() { scribble(l, at(-1, -1)) })
	}
	for _, z := range a.zones {
		for _, x := range z {
			list = append(list, func() { scribble(x.Vector, at(-2, -2)) })
		}
		list = append(list, func() { scribble(z, upTo(-4, -4, at(-4, -4))) })
	}
	return list
}

func scribble[T any](list []T, x T) {
	for i := range list[:cap(list)] {
		list[:cap(list)][i] = x
	}
}

// differing: how many lists of two answers differ.
func differing(a, b answer) int {
	n := 0
	for i, l := range a.sets {
		if !slices.Equal(l, b.sets[i]) {
			n++
		}
	}
	for i, l := range a.vectors {
		if !slices.Equal(l, b.vectors[i]) {
			n++
		}
	}
	for i, z := range a.zones {
		if !sameSpans(z, b.zones[i]) {
			n++
			continue
		}
		for k, x := range z {
			if !slices.Equal(x.Vector, b.zones[i][k].Vector) {
				n++
			}
		}
	}
	return n
}

// sameSpans: have two lists of zones the same spans?
func sameSpans(a, b []api.Zone) bool {
	return slices.EqualFunc(a, b, func(x, y api.Zone) bool { return x.Span == y.Span })
}

// P1 (rule 5): what is answered shares no memory with an argument, nor with another answer, nor within itself.
func TestAnswersAreNewMemory(t *testing.T) {
	for _, c := range examples() {
		wasZ, wasKnown, wasNote := wholeZones(c.z), whole(c.known), wholeNote(c.n)
		want := answers(c)
		for i := range want.scribbles() {
			got := answers(c)
			got.scribbles()[i]()
			if n := differing(got, want); n > 1 {
				t.Fatal(c.why, i, "shares with", n, "others")
			}
			if !reflect.DeepEqual(wholeZones(c.z), wasZ) || !slices.Equal(whole(c.known), wasKnown) || !reflect.DeepEqual(wholeNote(c.n), wasNote) {
				t.Fatal(c.why, i, "shares with an argument")
			}
		}
		if again := answers(c); differing(again, want) > 0 {
			t.Error(c.why, "kept from call to call")
		}
	}
}

// P1 (rule 6): nothing hangs on whether what holds nothing is nil or empty.
func TestNothingIsNothing(t *testing.T) {
	empty := []api.Zone{{Span: to(3, 5), Vector: vec()}}
	for _, z := range [][]api.Zone{empty, zones(upTo(3, 5))} {
		for _, known := range [][]api.Stamp{nil, vec()} {
			for _, n := range []api.Note{{}, {Start: vec(), End: vec(), Blur: set(), Writes: row()}} {
				after, then, e := trust.Take(z, known, n)
				if e != api.OK || !nothing(after, then) {
					t.Error(z, known, n, after, then, e)
				}
			}
			if got := trust.Since(z, known, set()); len(got) > 0 {
				t.Error(got)
			}
		}
	}
}
