package view_test

import (
	"bytes"
	"math"
	"math/rand"
	"slices"
	"strings"
	"testing"

	"telltale/api"
	"telltale/note"
	"telltale/vector"
	"telltale/view"
)

// full: what is known of all nodes, with counts from one on.
func full(from int) []api.Stamp {
	var c counts
	for node := range c {
		c[node] = from + node
	}
	return c.list()
}

// everyObject: a view that holds all objects, all sharp, each with a body of so many bytes.
func everyObject(size int) api.View {
	v := api.View{Known: full(9), Room: 256 * size}
	for o := range 256 {
		w := put(o, 1+o%9, o%64)
		v.Held = append(v.Held, w)
		v.Bodies = append(v.Bodies, api.Body{Object: 255 - o, Stamp: at(1+(255-o)%9, (255-o)%64), Value: bytes.Repeat([]byte{byte(o)}, size)})
	}
	return v
}

// everyZone: a view with as many zones as there can be, all nodes in each one's vector, and so many of them alike.
func everyZone(alike int) api.View {
	v := everyObject(2)
	v.Known = full(600)
	for o := range 256 {
		v.Zones = append(v.Zones, upTo(o, o, full(9+o%(256/alike))...))
	}
	return v
}

// formedViews: views that are formed, up to their edges.
func formedViews() []api.View {
	both := vec(at(5, 0), at(5, 1))
	return []api.View{
		{}, {Room: 9}, {Room: 1 << 24}, {Known: vec(), Zones: zones(), Held: row(), Bodies: bodies()},
		{Known: vec(at(1, 0))},
		{Known: vec(at(1, 0)), Zones: zones(upTo(0, 255))},
		{Known: vec(at(1, 63)), Zones: zones(upTo(255, 255)), Held: row(put(0, 1, 63)), Bodies: bodies(body(0, 1, 63, "")), Room: 0},
		{Known: vec(at(api.MaxCount, 63)), Held: row(put(255, api.MaxCount, 63)), Bodies: bodies(body(255, api.MaxCount, 63, "z")), Room: 1},
		{Known: vec(at(api.MaxCount, 0)), Zones: zones(upTo(0, 0, at(api.MaxCount-1, 0))), Held: row(put(0, api.MaxCount-1, 0), put(1, api.MaxCount, 0)), Bodies: bodies(body(1, api.MaxCount, 0, "one"), body(0, api.MaxCount-1, 0, "o")), Room: 5},
		{Known: both, Zones: zones(upTo(3, 5, at(5, 0))), Held: row(put(3, 2, 0), gone(4, 5, 0), gone(8, 1, 1), put(9, 5, 1)), Bodies: bodies(body(9, 5, 1, "nine"), body(3, 2, 0, "abc")), Room: 7},
		{Known: both, Zones: zones(upTo(3, 5, at(5, 0)), upTo(6, 6), upTo(7, 9, at(5, 0)), upTo(11, 12, at(5, 0))), Held: row(put(2, 5, 1), put(3, 2, 0), put(6+1, 5, 0), gone(9, 1, 0), put(12, 3, 0)), Bodies: bodies(body(12, 3, 0, ""), body(7, 5, 0, "seven")), Room: 99},
		{Known: both, Zones: zones(upTo(0, 99, at(5, 0), at(4, 1)), upTo(100, 255, at(4, 0), at(5, 1))), Held: row(put(99, 4, 1), put(100, 5, 1)), Bodies: bodies(body(99, 4, 1, "a"), body(100, 5, 1, "b")), Room: 2},
		{Known: both, Held: row(put(3, 2, 0), put(4, 2, 0), gone(5, 2, 0)), Bodies: bodies(body(4, 2, 0, "one stamp of two"), body(3, 2, 0, "objects")), Room: 99},
		{Known: both, Zones: zones(upTo(3, 4), upTo(6, 8)), Held: row(put(0, 1, 0), put(5, 5, 1), put(255, 5, 0)), Room: 3},
		{Known: vec(at(3, 2)), Held: row(put(7, 3, 2)), Bodies: bodies(body(7, 3, 2, strings.Repeat("v", 256))), Room: 256},
		everyObject(0), everyObject(1), everyObject(256),
	}
}

// wrong: a view that isn't formed, and why.
type wrong struct {
	why string
	v   api.View
}

// wrongVectors: lists of stamps that are no vectors.
func wrongVectors() [][]api.Stamp {
	return [][]api.Stamp{
		vec(at(0, 0)), vec(at(-1, 0)), vec(at(1, 64)), vec(at(1, -1)), vec(at(math.MinInt, math.MaxInt)),
		vec(at(2, 3), at(5, 0)), vec(at(5, 0), at(5, 0)), vec(at(5, 0), at(6, 0)), vec(at(5, 0), at(0, 3)), vec(at(5, 0), at(1, 64)),
	}
}

// someView: a view that is formed, of which one thing at a time is made wrong.
func someView() api.View {
	return api.View{
		Known:  vec(at(5, 0), at(7, 1)),
		Zones:  zones(upTo(3, 5, at(5, 0), at(2, 1)), upTo(6, 6, at(1, 1))),
		Held:   row(put(2, 7, 1), put(3, 5, 0), gone(4, 2, 1), put(6, 1, 1)),
		Bodies: bodies(body(6, 1, 1, "six"), body(2, 7, 1, "second"), body(3, 5, 0, "")),
		Room:   9,
	}
}

// wrongViews: views that aren't formed, in each of the ways that make them so.
func wrongViews() []wrong {
	var list []wrong
	add := func(why string, change func(v *api.View)) {
		v := someView()
		change(&v)
		list = append(list, wrong{why, v})
	}
	for _, x := range wrongVectors() {
		add("what is known is no vector", func(v *api.View) { *v = api.View{Known: x} })
		add("what is known is no vector, with all else", func(v *api.View) { v.Known = append(v.Known, x...) })
		add("a zone's is none", func(v *api.View) { v.Zones[0].Vector = x })
		add("the last zone's is none", func(v *api.View) { v.Zones[1].Vector = x })
	}
	addZones(add)
	addHeld(add)
	addBodies(add)
	return list
}

// addZones: what is wrong with zones.
func addZones(add func(why string, change func(v *api.View))) {
	for _, s := range set(to(5, 4), to(-1, 0), to(255, 256), to(256, 256), to(math.MinInt, math.MaxInt), to(math.MaxInt, math.MinInt)) {
		add("no span of objects", func(v *api.View) { *v = api.View{Known: v.Known, Zones: zones(upTo(s.Lo, s.Hi))} })
	}
	add("zones out of order", func(v *api.View) { slices.Reverse(v.Zones) })
	add("an object in two zones", func(v *api.View) { v.Zones[1].Span.Lo = 5 })
	add("zones beside one another with one vector", func(v *api.View) { v.Zones[1].Vector, v.Held = v.Zones[0].Vector, nil; v.Bodies = nil })
	for i := range 2 {
		add("a zone up to what is known", func(v *api.View) { v.Zones[i].Vector = v.Known })
		add("a zone up to more than is known", func(v *api.View) { v.Zones[i].Vector = vec(at(6, 0), at(7, 1)) })
		add("a zone up to more nodes than are known", func(v *api.View) { v.Zones[i].Vector = vec(at(5, 0), at(7, 1), at(1, 2)) })
		add("a zone apart from what is known", func(v *api.View) { v.Zones[i].Vector = vec(at(6, 0), at(2, 1)) })
		add("a zone apart from what is known, by a node", func(v *api.View) { v.Zones[i].Vector = vec(at(5, 0), at(2, 1), at(1, 63)) })
	}
	add("nothing is known, and a zone", func(v *api.View) { *v = api.View{Zones: zones(upTo(3, 5))} })
	add("nothing is known, and a zone up to more", func(v *api.View) { *v = api.View{Zones: zones(upTo(3, 5, at(1, 0)))} })
}

// addHeld: what is wrong with what is held.
func addHeld(add func(why string, change func(v *api.View))) {
	for _, w := range row(put(-1, 1, 1), put(256, 1, 1), put(math.MaxInt, 1, 1), put(math.MinInt, 1, 1), put(200, 0, 0), put(200, -1, 1), put(200, 1, 64), put(200, 1, -1), put(200, math.MinInt, 0), api.Write{}, gone(200, 0, 0)) {
		add("no right write", func(v *api.View) { *v = api.View{Known: v.Known, Held: row(w)} })
		add("no right write, the last one", func(v *api.View) { v.Held = append(v.Held, w) })
	}
	add("held out of order", func(v *api.View) { v.Held[0], v.Held[1] = v.Held[1], v.Held[0] })
	add("held twice", func(v *api.View) { v.Held = slices.Insert(v.Held, 0, v.Held[0]) })
	add("held twice, an older one ahead", func(v *api.View) { v.Held = slices.Insert(v.Held, 0, put(2, 1, 0)) })
	add("nothing is known, and held", func(v *api.View) { *v = api.View{Held: row(put(3, 1, 0))} })
	for _, w := range row(put(200, 8, 1), gone(200, 8, 1), put(200, 6, 0), put(200, 1, 2), put(200, 1, 63), put(200, api.MaxCount, 0)) {
		add("not known", func(v *api.View) { v.Held = append(v.Held, w) })
	}
	for _, w := range row(put(5, 3, 1), gone(5, 7, 1), put(5, 6, 0), put(5, 1, 2)) {
		add("behind its object's reach", func(v *api.View) { v.Held = slices.Insert(v.Held, 3, w) })
	}
	for _, w := range row(put(6, 2, 1), put(6, 1, 0), gone(6, 5, 0), put(6, 7, 1)) {
		add("behind its object's reach, in the last zone", func(v *api.View) { v.Held[3] = w; v.Bodies = nil })
	}
}

// addBodies: what is wrong with bodies, and with the room.
func addBodies(add func(why string, change func(v *api.View))) {
	for _, room := range []int{-1, math.MinInt, 1<<24 + 1, math.MaxInt, 8, 0} {
		add("no such room, or less than bytes", func(v *api.View) { v.Room = room })
	}
	for _, room := range []int{-1, math.MinInt, 1<<24 + 1, math.MaxInt} {
		add("no such room", func(v *api.View) { *v = api.View{Room: room} })
	}
	for _, x := range bodies(body(-1, 1, 1, ""), body(256, 1, 1, ""), body(math.MaxInt, 1, 1, ""), body(math.MinInt, 1, 1, ""), body(6, 0, 1, ""), body(6, 1, 64, ""), body(6, 1, -1, ""), api.Body{}, body(6, 1, 1, strings.Repeat("x", 257))) {
		add("no formed body", func(v *api.View) { v.Bodies[0] = x; v.Room = 999 })
		add("no formed body, the last one", func(v *api.View) { v.Bodies = append(v.Bodies[1:], x); v.Room = 999 })
	}
	add("two bodies of an object", func(v *api.View) { v.Bodies = append(v.Bodies, v.Bodies[2]) })
	add("a body of what isn't held", func(v *api.View) { v.Bodies = append(v.Bodies, body(200, 1, 1, "")) })
	add("a body of a blurred object that isn't held", func(v *api.View) { v.Bodies = append(v.Bodies, body(5, 1, 1, "")) })
	add("a body of what is gone", func(v *api.View) { v.Bodies = append(v.Bodies, body(4, 2, 1, "")) })
	for _, s := range vec(at(4, 0), at(5, 1), at(6, 0), at(7, 1), at(1, 0)) {
		add("a body of another stamp", func(v *api.View) { v.Bodies[2].Stamp = s })
	}
	add("a body of another object's stamp", func(v *api.View) { v.Bodies[0].Stamp, v.Bodies[1].Stamp = v.Bodies[1].Stamp, v.Bodies[0].Stamp })
	add("what is held is gone", func(v *api.View) { v.Held[0].Gone = true })
	add("nothing is held", func(v *api.View) { v.Held = nil })
	add("nothing is known", func(v *api.View) { *v = api.View{Bodies: bodies(body(0, 1, 0, "")), Room: 9} })
	add("nothing is known, and the zero body", func(v *api.View) { *v = api.View{Bodies: bodies(api.Body{}), Room: 9} })
}

// interests: lists of spans, sets and not.
func interests() [][]api.Span {
	return [][]api.Span{
		nil, set(), set(to(0, 255)), set(to(0, 0)), set(to(255, 255)), set(to(4, 4)), set(to(6, 6)), set(to(0, 99)), set(to(100, 255)), set(to(1, 254)), set(to(3, 5)), set(to(5, 8)), set(to(0, 0), to(255, 255)), set(to(9, 9), to(12, 12)),
		set(to(255, 300), to(-7, 0)), set(to(4, 3)), set(to(256, 999)), set(to(-9, -1)), set(to(20, 30), to(3, 25), to(3, 25)), set(to(math.MinInt, math.MaxInt)), set(to(math.MaxInt, math.MinInt)), set(to(9, 8), to(10, 11), to(5, 5)),
	}
}

// someNotes: notes, formed and not.
func someNotes() []api.Note {
	return []api.Note{
		{}, {End: vec(at(1, 0))}, {End: vec(at(1, 0)), Blur: set(to(0, 255))}, {Start: full(1), End: full(2)},
		{End: vec(at(5, 0), at(7, 1)), Writes: row(gone(2, 7, 1), gone(3, 6, 1), put(9, 5, 0))},
		{Start: vec(at(5, 0)), End: vec(at(6, 0), at(1, 63)), Blur: set(to(2, 3)), Writes: row(put(4, 6, 0), gone(6, 1, 63))},
		{Start: vec(at(1, 0)), End: vec(at(2, 0)), Writes: row(put(3, 2, 0))},
		{End: full(700), Writes: row(put(0, 609, 9), put(100, 700, 0), gone(255, 763, 63))},
		{Start: full(600), End: full(601), Blur: set(to(0, 7)), Writes: row(put(8, 601, 0), gone(9, 609, 9))},
		{End: vec(at(api.MaxCount, 0)), Writes: row(put(0, api.MaxCount, 0))},
		{Start: vec(at(1, 0))}, {End: vec(at(0, 0))}, {End: vec(at(2, 3), at(5, 0))}, {End: vec(at(1, 0)), Blur: set(to(5, 4))}, {End: vec(at(1, 0)), Blur: set(to(1, 2), to(3, 4))},
		{End: vec(at(1, 0)), Writes: row(put(3, 2, 0))}, {End: vec(at(1, 0)), Writes: row(put(256, 1, 0))}, {End: vec(at(1, 0)), Blur: set(to(3, 3)), Writes: row(put(3, 1, 0))},
		{End: vec(at(1, 0)), Writes: row(put(4, 1, 0), put(3, 1, 0))}, {End: vec(at(1, 0)), Writes: row(api.Write{})}, {Start: full(900), End: full(899)},
	}
}

// someBodies: bodies that may come, beside those of what a view holds; formed and not.
func someBodies(v api.View) []api.Body {
	list := bodies(api.Body{}, body(3, 1, 0, "abc"), body(200, 1, 1, ""), body(255, api.MaxCount, 63, "zz"), body(-1, 1, 0, ""), body(256, 1, 0, ""), body(math.MaxInt, 1, 0, ""), body(math.MinInt, 1, 0, ""), body(0, 0, 0, ""), body(0, 1, 64, ""), body(0, 1, -1, ""))
	for i, w := range v.Held {
		if len(v.Held) > 20 && i%51 > 0 {
			continue
		}
		for _, size := range []int{0, 1, 3, 256, 257} {
			list = append(list, api.Body{Object: w.Object, Stamp: w.Stamp, Value: bytes.Repeat([]byte("n"), size)})
		}
		list = append(list, body(w.Object, w.Stamp.Count, w.Stamp.Node+1, "x"), body(w.Object, w.Stamp.Count-1, w.Stamp.Node, "x"), body(w.Object+1, w.Stamp.Count, w.Stamp.Node, "x"))
	}
	return list
}

// someWritings: arguments of writes, right and wrong.
func someWritings() []writing {
	hi, long, longer := []byte("hi"), make([]byte, 256), make([]byte, 257)
	list := []writing{
		{0, 3, 0, hi, false}, {1, 3, 0, hi, false}, {63, 6, 0, nil, false}, {0, 0, 5, long, false}, {0, 4, 0, nil, true}, {1, 255, 0, nil, true}, {2, 6, 1, []byte{}, true}, {7, 200, 0, hi, false},
		{0, 3, 0, longer, false}, {0, 3, 0, longer, true}, {0, 3, 0, hi, true}, {0, 3, 0, []byte{0}, true},
		{-1, 3, 0, hi, false}, {64, 3, 0, hi, false}, {math.MaxInt, 3, 0, nil, true}, {math.MinInt, 3, 0, nil, true},
		{0, -1, 0, hi, false}, {0, 256, 0, hi, false}, {0, math.MinInt, 0, nil, true}, {0, math.MaxInt, 0, nil, true},
		{0, 3, -1, hi, false}, {0, 3, math.MinInt, hi, false}, {64, 3, math.MaxInt, hi, false}, {0, 256, math.MaxInt, hi, false}, {0, 3, math.MaxInt, longer, false}, {0, 3, math.MaxInt, hi, true},
	}
	for _, skip := range []int{math.MaxInt, math.MaxInt - 1, math.MaxInt - 2, math.MaxInt - 5, math.MaxInt - 6, math.MaxInt - 7, math.MaxInt - 8, 1 << 40} {
		list = append(list, writing{0, 9, skip, hi, false}, writing{1, 9, skip, nil, true})
	}
	return list
}

// numbers: some objects, and whole numbers that are none.
func numbers() []int {
	return []int{math.MinInt, -256, -1, 0, 1, 2, 3, 4, 5, 6, 7, 8, 9, 10, 11, 12, 99, 100, 127, 128, 200, 254, 255, 256, 257, 511, 1 << 32, math.MaxInt}
}

// refused: what all calls answer of a view that isn't formed.
func refused(t *testing.T, why string, v api.View) {
	t.Helper()
	if view.Formed(v) {
		t.Fatal(why, "is formed:", v)
	}
	for _, o := range []int{-1, 0, 3, 4, 6, 200, 256} {
		if value, w, e := view.Read(v, o); len(value) > 0 || w != (api.Write{}) || e != api.ErrArg {
			t.Fatal(why, v, "read of", o, value, w, e)
		}
		if x, e := view.Serve(v, o); !sameBody(x, api.Body{}) || e != api.ErrArg {
			t.Fatal(why, v, "serve of", o, x, e)
		}
	}
	for _, interest := range [][]api.Span{nil, set(to(0, 255)), set(to(4, 3))} {
		if got := view.Since(v, interest); len(got) > 0 {
			t.Fatal(why, v, "since", interest, got)
		}
		if got, e := view.Sum(v, interest); len(got) > 0 || e != api.ErrArg {
			t.Fatal(why, v, "sum", interest, got, e)
		}
		if got, e := view.Lacks(v, interest); len(got) > 0 || e != api.ErrArg {
			t.Fatal(why, v, "lacks", interest, got, e)
		}
	}
	for _, n := range []api.Note{{}, {End: vec(at(1, 0))}, {Start: full(900), End: full(900)}, {Start: vec(at(1, 0))}} {
		if after, e := view.Take(v, n); !sameView(after, api.View{}) || e != api.ErrArg {
			t.Fatal(why, v, "take of", n, after, e)
		}
	}
	for _, x := range bodies(body(6, 1, 1, "six"), body(200, 1, 1, ""), api.Body{}) {
		if after, e := view.Body(v, x); !sameView(after, api.View{}) || e != api.ErrArg {
			t.Fatal(why, v, "body", x, after, e)
		}
	}
	for _, x := range []writing{{0, 3, 0, nil, false}, {0, 3, 0, nil, true}, {0, 3, math.MaxInt, nil, true}} {
		checkWrite(t, v, x)
	}
}

// checkTake: a note that is taken, against the document's words and P13.2.
func checkTake(t *testing.T, v api.View, n api.Note) (api.View, api.Errno) {
	t.Helper()
	want, wantE := wordTake(v, n)
	got, e := view.Take(v, n)
	if !sameView(got, want) || e != wantE {
		t.Fatal(v, "take of", n, got, e, "asked for:", want, wantE)
	}
	if e != api.OK {
		return v, e
	}
	if !view.Formed(got) || !wordFormed(got) {
		t.Fatal(v, "take of", n, "isn't formed:", got)
	}
	if again, e := view.Take(got, n); !sameView(again, got) || e != api.OK {
		t.Fatal(v, "take of", n, "once:", got, "twice:", again, e)
	}
	return got, api.OK
}

// checkBody: a body that comes, against the document's words.
func checkBody(t *testing.T, v api.View, x api.Body) (api.View, api.Errno) {
	t.Helper()
	want, wantE := wordPut(v, x)
	if wantE != api.OK {
		want = api.View{}
	}
	got, e := view.Body(v, x)
	if !sameView(got, want) || e != wantE {
		t.Fatal(v, "body", x, got, e, "asked for:", want, wantE)
	}
	if e != api.OK {
		return v, e
	}
	if !view.Formed(got) || !wordFormed(got) {
		t.Fatal(v, "body", x, "isn't formed:", got)
	}
	return got, api.OK
}

// checkWrite: a write, against the document's words.
func checkWrite(t *testing.T, v api.View, x writing) (api.View, api.Note, api.Errno) {
	t.Helper()
	want, wantN, wantE := wordWrite(v, x)
	got, n, e := view.Write(v, x.me, x.object, x.skip, x.value, x.gone)
	if !sameView(got, want) || !sameNote(n, wantN) || e != wantE {
		t.Fatal(v, "write", x, got, n, e, "asked for:", want, wantN, wantE)
	}
	if e != api.OK {
		return v, n, e
	}
	if !view.Formed(got) || !wordFormed(got) || !note.Formed(n) || !wordNote(n) {
		t.Fatal(v, "write", x, "isn't formed:", got, n)
	}
	return got, n, api.OK
}

// checkReads: what is read and served of some numbers.
func checkReads(t *testing.T, v api.View, objects ...int) {
	t.Helper()
	for _, o := range objects {
		wantV, wantW, wantE := wordRead(v, o)
		if value, w, e := view.Read(v, o); !bytes.Equal(value, wantV) || w != wantW || e != wantE {
			t.Fatal(v, "read of", o, value, w, e, "asked for:", wantV, wantW, wantE)
		}
		want, wantE := wordServe(v, o)
		if x, e := view.Serve(v, o); !sameBody(x, want) || e != wantE {
			t.Fatal(v, "serve of", o, x, e, "asked for:", want, wantE)
		}
	}
}

// checkInterest: what is said of an interest.
func checkInterest(t *testing.T, v api.View, interest []api.Span) {
	t.Helper()
	if got, want := view.Since(v, interest), wordSince(v, interest); !slices.Equal(got, want) {
		t.Fatal(v, "since", interest, got, "asked for:", want)
	}
	want, wantE := wordLacks(v, interest)
	if got, e := view.Lacks(v, interest); !slices.Equal(got, want) || e != wantE {
		t.Fatal(v, "lacks", interest, got, e, "asked for:", want, wantE)
	}
	sum, e := view.Sum(v, interest)
	wantSum, wantE := wordSum(v, interest)
	if !slices.EqualFunc(sum, wantSum, sameNote) || e != wantE {
		t.Fatal(v, "sum", interest, sum, e, "asked for:", wantSum, wantE)
	}
	if e == api.OK {
		checkSum(t, v, interest, sum)
	}
}

// checkSum: a sum that is taken by its own view, and by one that knows nothing (P13.2, P13.4).
func checkSum(t *testing.T, v api.View, interest []api.Span, sum []api.Note) {
	t.Helper()
	if len(sum) > api.MaxNotes {
		t.Fatal(v, "sum", interest, len(sum), "notes")
	}
	fresh, own := api.View{}, v
	for _, n := range sum {
		if !note.Formed(n) || len(n.Start) > 0 {
			t.Fatal(v, "sum", interest, "no such note:", n)
		}
		var e, ownE api.Errno
		fresh, e = view.Take(fresh, n)
		own, ownE = view.Take(own, n)
		if e != api.OK || ownE != api.OK || !sameView(own, v) {
			t.Fatal(v, "sum", interest, "taken by its own:", own, e, ownE)
		}
	}
	if !wordFormed(fresh) || !slices.Equal(fresh.Known, v.Known) || len(fresh.Bodies) > 0 {
		t.Fatal(v, "sum", interest, "taken by one that knew nothing:", fresh)
	}
	for o := range 256 {
		if !isIn(interest, o) {
			if _, is := heldOf(v, o); !blurred(fresh, o) && is {
				t.Fatal(v, "sum", interest, "taken: not blurred, but written:", o)
			}
			continue
		}
		_, w, e := wordRead(v, o)
		if e == api.OK && !w.Gone {
			e = api.ErrNoBody
		}
		if _, got, gotE := wordRead(fresh, o); got != w || gotE != e {
			t.Fatal(v, "sum", interest, "taken, and read:", o, got, gotE, "asked for:", w, e)
		}
		if !slices.Equal(wordReach(fresh, o), wordReach(v, o)) {
			t.Fatal(v, "sum", interest, "taken: the reach of", o)
		}
	}
}

// checkEach: all calls, of a view and any arguments.
func checkEach(t *testing.T, v api.View) {
	t.Helper()
	if got, want := view.Formed(v), wordFormed(v); got != want {
		t.Fatal(v, "formed:", got)
	}
	checkReads(t, v, numbers()...)
	for _, interest := range interests() {
		checkInterest(t, v, interest)
	}
	for _, n := range someNotes() {
		checkTake(t, v, n)
	}
	for _, x := range someBodies(v) {
		checkBody(t, v, x)
	}
	for _, x := range someWritings() {
		checkWrite(t, v, x)
	}
}

// P13.1: New, of all rooms at the edges.
func TestNew(t *testing.T) {
	for _, room := range []int{0, 1, 2, 255, 256, 4096, 1<<24 - 1, 1 << 24} {
		v, e := view.New(room)
		if e != api.OK || !sameView(v, api.View{Room: room}) || !view.Formed(v) {
			t.Error(room, v, e)
		}
	}
	for _, room := range []int{-1, -2, math.MinInt, 1<<24 + 1, 1 << 25, 1 << 32, math.MaxInt} {
		if v, e := view.New(room); e != api.ErrArg || !sameView(v, api.View{}) {
			t.Error(room, v, e)
		}
	}
}

// P13.1, P13.2, P13.4: all calls, of views that are formed.
func TestFormed(t *testing.T) {
	for _, v := range append(formedViews(), someView()) {
		if !wordFormed(v) {
			t.Fatal("the test's own words differ:", v)
		}
		checkEach(t, v)
	}
}

// P13.1, P13.2, P13.4: as many zones as there can be, and as many notes of a sum.
func TestEveryZone(t *testing.T) {
	for _, alike := range []int{1, 4} {
		v := everyZone(alike)
		if !wordFormed(v) {
			t.Fatal("the test's own words differ:", v)
		}
		checkReads(t, v, numbers()...)
		checkInterest(t, v, set(to(0, 255)))
		checkInterest(t, v, set(to(60, 70), to(200, 200), to(128, 130)))
		for _, n := range someNotes() {
			checkTake(t, v, n)
		}
		for _, x := range someWritings()[:9] {
			checkWrite(t, v, x)
		}
		for _, x := range someBodies(v) {
			checkBody(t, v, x)
		}
		sum, e := view.Sum(v, set(to(0, 255)))
		if len(sum) != 1+256/alike || e != api.OK || len(sum[0].Blur) != 1 || len(sum[1].Writes) != alike {
			t.Error(alike, len(sum), e)
		}
		for o := range 256 {
			v.Zones[o].Vector = v.Known
			if view.Formed(v) {
				t.Fatal("the zone of", o, "is up to what is known")
			}
			v.Zones[o] = everyZone(alike).Zones[o]
			v.Held[o].Stamp = at(9+o%(256/alike)+o%64+1, o%64)
			if view.Formed(v) {
				t.Fatal("the write of", o, "is behind its reach")
			}
			v.Held[o] = everyZone(alike).Held[o]
		}
	}
}

// P13.1: all calls, of views that aren't formed in each of the ways.
func TestNotFormed(t *testing.T) {
	for _, w := range wrongViews() {
		if wordFormed(w.v) {
			t.Fatal("the test's own words differ:", w.why, w.v)
		}
		refused(t, w.why, w.v)
		checkEach(t, w.v)
	}
}

// anyViews: each of some Knowns, with each of some Zones, and so on, right and wrong in any number of ways at once.
func anyViews(each func(v api.View)) {
	one, ab := body(3, 1, 0, "a"), body(3, 2, 0, "ab")
	for _, known := range [][]api.Stamp{nil, vec(at(1, 0)), vec(at(2, 0)), vec(at(2, 0), at(1, 63)), vec(at(1, 63)), vec(at(2, 3), at(5, 0)), vec(at(0, 0))} {
		for _, z := range [][]api.Zone{nil, zones(upTo(3, 5)), zones(upTo(3, 3, at(1, 0))), zones(upTo(0, 255)), zones(upTo(3, 5, at(1, 0)), upTo(6, 255)), zones(upTo(2, 2, at(2, 0)), upTo(255, 255, at(1, 63))), zones(upTo(3, 3), upTo(4, 4)), zones(upTo(5, 3))} {
			for _, held := range [][]api.Write{nil, row(put(3, 1, 0)), row(gone(3, 1, 0)), row(put(3, 2, 0)), row(put(3, 1, 63)), row(put(2, 1, 0), put(3, 1, 0)), row(put(2, 2, 0), gone(3, 1, 0), put(255, 1, 63)), row(put(3, 1, 0), put(3, 2, 0)), row(put(256, 1, 0))} {
				for _, l := range [][]api.Body{nil, bodies(one), bodies(body(3, 1, 0, "")), bodies(ab), bodies(one, body(2, 1, 0, "b")), bodies(body(2, 2, 0, "bb"), one), bodies(one, one), bodies(body(3, 0, 0, ""))} {
					for _, room := range []int{0, 1, 2, 3, 1 << 24, -1, 1<<24 + 1} {
						each(api.View{Known: known, Zones: z, Held: held, Bodies: l, Room: room})
					}
				}
			}
		}
	}
}

// P13.1: views put together of any parts.
func TestAnyViews(t *testing.T) {
	formed, all := 0, 0
	notes, writings := someNotes()[:7], someWritings()[:9]
	anyViews(func(v api.View) {
		all++
		want := wordFormed(v)
		if got := view.Formed(v); got != want {
			t.Fatal(v, "formed:", got)
		}
		if !want {
			if all%10 == 0 {
				refused(t, "any parts", v)
			}
			return
		}
		formed++
		checkReads(t, v, -1, 2, 3, 4, 255, 256)
		checkInterest(t, v, set(to(3, 3+formed%9)))
		checkTake(t, v, notes[formed%len(notes)])
		checkWrite(t, v, writings[formed%len(writings)])
		checkBody(t, v, body(3, 1+formed%2, 0, "xyz"[:formed%4]))
	})
	if formed < 300 {
		t.Error(formed, all)
	}
}

// vectors: of the nodes 0 and 63, with counts up to two.
func vectors() [][]api.Stamp {
	var list [][]api.Stamp
	for a := range 3 {
		for b := range 3 {
			list = append(list, counts{0: a, 63: b}.list())
		}
	}
	return list
}

// within: the stamps that a vector has.
func within(v []api.Stamp) []api.Stamp {
	var list []api.Stamp
	for _, s := range v {
		for count := range s.Count {
			list = append(list, at(count+1, s.Node))
		}
	}
	return list
}

// smallViews: all views of a small world: what is known, one object's reach, its write, and its body; of another one a body, if it may be.
func smallViews(o int) []api.View {
	var list []api.View
	for _, known := range vectors() {
		for _, reach := range vectors() {
			if !covers(known, reach) {
				continue
			}
			v := api.View{Known: known, Room: 5}
			if !covers(reach, known) {
				v.Zones = zones(upTo(o, o, reach...))
			}
			list = append(list, v)
			for _, s := range within(reach) {
				v.Held = row(api.Write{Stamp: s, Object: o, Gone: true})
				list = append(list, v)
				v.Held = row(api.Write{Stamp: s, Object: o})
				list = append(list, v)
				v.Bodies = bodies(body(o, s.Count, s.Node, "abc"))
				list = append(list, v)
				v.Bodies = nil
			}
		}
	}
	return list
}

// smallNotes: all notes of that world.
func smallNotes(o int) []api.Note {
	var list []api.Note
	for _, start := range vectors() {
		for _, end := range vectors() {
			if !covers(end, start) {
				continue
			}
			n := api.Note{Start: start, End: end}
			list = append(list, n)
			for _, s := range within(end) {
				n.Writes = row(api.Write{Stamp: s, Object: o})
				list = append(list, n)
				n.Writes = row(api.Write{Stamp: s, Object: o, Gone: true})
				list = append(list, n)
			}
			n.Blur, n.Writes = set(to(o, o)), nil
			list = append(list, n)
		}
	}
	return list
}

// P13.1, P13.2: all notes of a small world, taken by all its views.
func TestTakeOfSmallWorld(t *testing.T) {
	taken, gaps, lost := 0, 0, 0
	for i, v := range smallViews(3) {
		for k, n := range smallNotes(3) {
			if (i+k)%2 == 1 {
				continue
			}
			after, e := checkTake(t, v, n)
			switch {
			case e == api.ErrGap:
				gaps++
				continue
			case len(after.Bodies) < len(v.Bodies):
				lost++
			}
			taken++
		}
	}
	if taken < 10000 || gaps < 5000 || lost < 1000 {
		t.Error(taken, gaps, lost)
	}
}

// P13.1, P13.4: all other calls, of all views of small worlds.
func TestSmallViews(t *testing.T) {
	stale := 0
	for _, o := range []int{0, 3, 255} {
		for _, v := range smallViews(o) {
			checkReads(t, v, o-1, o, o+1)
			for _, interest := range [][]api.Span{nil, set(to(o, o)), set(to(o+1, o+1)), set(to(0, 255))} {
				checkInterest(t, v, interest)
			}
			for _, s := range vec(at(0, 0), at(1, 0), at(2, 0), at(1, 63), at(2, 63), at(3, 0), at(1, 1)) {
				for _, value := range []string{"", "abcde", "abcdef"} {
					checkBody(t, v, body(o, s.Count, s.Node, value))
				}
			}
			for _, me := range []int{0, 1, 63} {
				for _, skip := range []int{0, 2} {
					checkWrite(t, v, writing{me, o, skip, nil, true})
					if _, _, e := checkWrite(t, v, writing{me, o, skip, []byte("hello"), false}); e == api.ErrStale {
						stale++
					}
				}
			}
		}
	}
	if stale < 100 {
		t.Error(stale)
	}
}

// chance: a row of numbers that is always the same.
type chance struct{ *rand.Rand }

// vector: one of some nodes.
func (c chance) vector(nodes, most int) []api.Stamp {
	var v counts
	for node := range nodes {
		v[node] = c.Intn(most + 1)
	}
	return v.list()
}

// below: a vector that another one covers.
func (c chance) below(v []api.Stamp) []api.Stamp {
	out := countsOf(v)
	for node, count := range out {
		if c.Intn(3) == 0 {
			out[node] = c.Intn(count + 1)
		}
	}
	return out.list()
}

// stamp: one that a vector has.
func (c chance) stamp(v []api.Stamp) api.Stamp {
	s := v[c.Intn(len(v))]
	return at(1+c.Intn(s.Count), s.Node)
}

// view: one that is formed, of some nodes and some objects; its zones have few reaches.
func (c chance) view(nodes int) api.View {
	v := api.View{Known: c.vector(nodes, 4)}
	reaches := [][]api.Stamp{c.below(v.Known), c.below(v.Known), c.below(v.Known)}
	for o := c.Intn(5); o < 256; o += 1 + c.Intn(9)*c.Intn(9) {
		hi, reach, last := min(255, o+c.Intn(4)*c.Intn(9)), reaches[c.Intn(3)], len(v.Zones)-1
		if !covers(reach, v.Known) && (last < 0 || v.Zones[last].Span.Hi < o-1 || !slices.Equal(v.Zones[last].Vector, reach)) {
			v.Zones = append(v.Zones, upTo(o, hi, reach...))
		}
		o = hi
	}
	for o := 0; o < 256; o += 1 + c.Intn(3)*c.Intn(20) {
		if reach := wordReach(v, o); len(reach) > 0 {
			s := c.stamp(reach)
			v.Held = append(v.Held, api.Write{Stamp: s, Object: o, Gone: c.Intn(4) == 0})
			if w := v.Held[len(v.Held)-1]; !w.Gone && c.Intn(3) > 0 {
				v.Bodies = append(v.Bodies, body(o, s.Count, s.Node, strings.Repeat("b", c.Intn(6))))
				v.Room += len(v.Bodies[len(v.Bodies)-1].Value)
			}
		}
	}
	c.Shuffle(len(v.Bodies), func(i, k int) { v.Bodies[i], v.Bodies[k] = v.Bodies[k], v.Bodies[i] })
	v.Room += c.Intn(3)
	return v
}

// set: some spans, as a set.
func (c chance) set() []api.Span {
	l := c.spans()
	return setWhere(func(o int) bool { return isIn(l, o) })
}

// spans: any list of spans.
func (c chance) spans() []api.Span {
	var l []api.Span
	for range c.Intn(5) {
		lo := c.Intn(256)
		l = append(l, to(lo, lo+c.Intn(2)*c.Intn(100)))
	}
	return l
}

// note: one that is formed, near what a view knows.
func (c chance) note(v api.View, nodes int) api.Note {
	n := api.Note{Start: c.below(v.Known), Blur: c.set()}
	if c.Intn(5) == 0 {
		n.Start = c.vector(nodes, 4)
	}
	if len(v.Zones) > 0 && c.Intn(3) == 0 {
		n.Start = c.below(v.Zones[c.Intn(len(v.Zones))].Vector)
	}
	n.End = vector.Join(n.Start, c.vector(nodes, 5))
	for o := 0; o < 256 && len(n.End) > 0; o += 1 + c.Intn(40) {
		if !isIn(n.Blur, o) {
			n.Writes = append(n.Writes, api.Write{Stamp: c.stamp(n.End), Object: o, Gone: c.Intn(4) == 0})
		}
	}
	return n
}

// P13.1, P13.2, P13.4: views and notes of all sizes, one upon the other, by a fixed row of numbers.
func TestMany(t *testing.T) {
	c := chance{rand.New(rand.NewSource(13))}
	did := map[api.Errno]int{}
	for range 250 {
		nodes := 1 + c.Intn(4)*c.Intn(22)
		v := c.view(nodes)
		if !wordFormed(v) {
			t.Fatal("the test's own view isn't formed:", v)
		}
		for range 8 {
			var e api.Errno
			switch c.Intn(4) {
			case 0:
				x := writing{c.Intn(nodes), c.Intn(256), c.Intn(2) * c.Intn(3), []byte("value"[:c.Intn(6)]), c.Intn(4) == 0}
				if x.gone {
					x.value = nil
				}
				v, _, e = checkWrite(t, v, x)
			case 1:
				if len(v.Held) > 0 {
					w := v.Held[c.Intn(len(v.Held))]
					v, e = checkBody(t, v, body(w.Object, w.Stamp.Count, w.Stamp.Node, "body"[:c.Intn(5)]))
				}
			default:
				v, e = checkTake(t, v, c.note(v, nodes))
			}
			did[e]++
			checkReads(t, v, c.Intn(256), c.Intn(256))
		}
		checkInterest(t, v, c.spans())
		checkInterest(t, v, set(to(0, 255)))
	}
	if did[api.OK] < 1000 || did[api.ErrGap] < 50 || did[api.ErrStale] < 100 {
		t.Error(did)
	}
}
