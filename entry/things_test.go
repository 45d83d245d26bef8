package entry_test

// Things that entries are made of, right and wrong, up to their edges.

import (
	"bytes"
	"math"
	"slices"
	"strings"

	"telltale/api"
)

// full: what is known of all nodes, with counts from one on.
func full(from int) []api.Stamp {
	var v []api.Stamp
	for node := range 64 {
		v = append(v, at(from+node, node))
	}
	return v
}

// evens: the set of as many spans as there can be.
func evens() []api.Span {
	var l []api.Span
	for o := 0; o < 256; o += 2 {
		l = append(l, to(o, o))
	}
	return l
}

// someVectors: right and wrong ones.
func someVectors() [][]api.Stamp {
	return [][]api.Stamp{
		nil, vec(), vec(at(1, 0)), vec(at(1, 63)), vec(at(api.MaxCount, 0)), vec(at(5, 0), at(2, 3)), full(1), full(api.MaxCount - 63),
		vec(at(0, 0)), vec(at(-1, 0)), vec(at(1, 64)), vec(at(1, -1)), vec(at(math.MinInt, math.MaxInt)),
		vec(at(2, 3), at(5, 0)), vec(at(5, 0), at(5, 0)), vec(at(5, 0), at(0, 3)), append(full(1), at(1, 64)),
	}
}

// someSets: right and wrong ones.
func someSets() [][]api.Span {
	return [][]api.Span{
		nil, set(), set(to(0, 0)), set(to(255, 255)), set(to(0, 255)), set(to(1, 3)), set(to(0, 1), to(3, 3), to(127, 128), to(254, 255)), evens(),
		set(to(5, 4)), set(to(-1, 0)), set(to(255, 256)), set(to(256, 256)), set(to(math.MinInt, math.MaxInt)), set(to(math.MaxInt, math.MaxInt)),
		set(to(3, 3), to(1, 1)), set(to(3, 3), to(3, 3)), set(to(1, 2), to(3, 4)), set(to(1, 5), to(3, 9)), append(evens(), to(255, 255)), append(evens(), to(256, 256)),
	}
}

// great: a note with a write of each object.
func great() api.Note {
	n := api.Note{Start: vec(at(3, 7)), End: vec(at(1000, 7), at(api.MaxCount, 63))}
	for o := range 256 {
		w := put(o, 1000-o, 7)
		w.Gone = o%3 == 0
		n.Writes = append(n.Writes, w)
	}
	return n
}

// own: the note of one write, with something of all in it.
func own(w api.Write) api.Note {
	end := vec(at(600, 0), at(4, 1), at(2, 3), at(api.MaxCount, 63))
	return api.Note{Start: vec(at(5, 0), at(2, 3)), End: end, Blur: set(to(1, 2), to(10, 20), to(254, 254)), Writes: row(w)}
}

// ownChanged: such a note, but for one thing.
func ownChanged(change func(n *api.Note)) api.Note {
	n := own(put(21, 600, 0))
	change(&n)
	return n
}

// someNotes: right and wrong ones.
func someNotes() []api.Note {
	list := []api.Note{
		{}, {Start: vec(), End: vec(), Blur: set(), Writes: row()}, great(), own(put(21, 600, 0)), own(gone(21, 600, 0)), own(put(0, api.MaxCount, 63)), own(gone(255, 1, 1)),
		{Blur: set(to(0, 255))}, {Start: vec(at(5, 0)), End: vec(at(5, 0))}, {End: vec(at(1, 0))}, {End: vec(at(1, 0)), Blur: set(to(3, 5))},
		{End: vec(at(1, 63)), Writes: row(put(0, 1, 63))}, {End: vec(at(1, 0)), Writes: row(gone(255, 1, 0))}, {End: vec(at(2, 0)), Writes: row(put(3, 1, 0), gone(4, 2, 0))},
		{Start: vec(at(1, 0)), End: vec(at(2, 0)), Writes: row(put(3, 2, 0))}, {Start: full(1), End: full(2)}, {End: full(700), Writes: row(put(0, 609, 9), put(100, 700, 0), gone(255, 763, 63))},
		{End: vec(at(5, 0), at(7, 1)), Writes: row(gone(2, 7, 1), gone(3, 6, 1), put(9, 5, 0))}, {Start: vec(at(5, 0)), End: vec(at(6, 0), at(1, 63)), Blur: set(to(2, 3)), Writes: row(put(4, 6, 0))},
		ownChanged(func(n *api.Note) { n.Start = nil }), ownChanged(func(n *api.Note) { n.Blur = nil }), ownChanged(func(n *api.Note) { n.Writes = nil }),
		ownChanged(func(n *api.Note) { n.Writes = row(put(21, 600, 0), put(22, 5, 0)) }), ownChanged(func(n *api.Note) { n.Writes = row(gone(21, 600, 0), put(22, 5, 0)) }),
		ownChanged(func(n *api.Note) { n.Writes = row(put(21, 600, 0), put(21, 600, 0)) }), ownChanged(func(n *api.Note) { n.Writes = row(put(0, 0, 0)) }), ownChanged(func(n *api.Note) { n.Writes = row(api.Write{Gone: true}) }),
	}
	for _, v := range someVectors()[2:] {
		list = append(list, ownChanged(func(n *api.Note) { n.Start = v }), ownChanged(func(n *api.Note) { n.End = v }))
	}
	for _, l := range someSets()[2:] {
		list = append(list, ownChanged(func(n *api.Note) { n.Blur = l }))
	}
	for _, w := range row(put(-1, 600, 0), put(256, 600, 0), put(2, 600, 0), put(21, 601, 0), put(21, 0, 0), put(21, 1, 64), gone(21, 1, 2)) {
		list = append(list, own(w))
	}
	return list
}

// someBodies: right and wrong ones.
func someBodies() []api.Body {
	list := bodies(api.Body{}, api.Body{Value: []byte{}}, api.Body{Value: []byte{0}}, api.Body{Object: 7}, api.Body{Stamp: at(1, 0)}, api.Body{Stamp: at(0, 1)}, body(0, 1, 0, ""), body(3, 1, 0, "abc"), body(255, api.MaxCount, 63, "zz"), body(21, 600, 0, "own"), body(200, 300, 5, ""))
	for _, o := range []int{-1, 256, math.MinInt, math.MaxInt, 0, 255} {
		list = append(list, body(o, 1, 0, "x"))
	}
	for _, s := range vec(at(0, 0), at(-1, 0), at(1, 64), at(1, -1), at(math.MinInt, 3), at(api.MaxCount, 0), at(1, 63)) {
		list = append(list, body(7, s.Count, s.Node, "x"))
	}
	for _, size := range []int{1, 127, 128, 255, 256, 257, 258, 1000} {
		list = append(list, api.Body{Object: 7, Stamp: at(3, 2), Value: counted(size)})
	}
	return list
}

// counted: n bytes, each another one than those beside it.
func counted(n int) []byte {
	list := make([]byte, n)
	for i := range list {
		list[i] = byte(i*7 + 1)
	}
	return list
}

// someView: a view that is formed, with something of all in it.
func someView() api.View {
	return api.View{
		Known:  vec(at(5, 0), at(7, 1)),
		Zones:  zones(upTo(3, 5, at(5, 0), at(2, 1)), upTo(6, 6, at(1, 1))),
		Held:   row(put(2, 7, 1), put(3, 5, 0), gone(4, 2, 1), put(6, 1, 1)),
		Bodies: bodies(body(6, 1, 1, "six"), body(2, 7, 1, "second"), body(3, 5, 0, "")),
		Room:   9,
	}
}

// everyObject: a view that holds all objects, with as many zones as there can be, all nodes in each one's vector, and a body of so many bytes of each.
func everyObject(size int) api.View {
	v := api.View{Known: full(600), Room: 256 * size}
	for o := range 256 {
		v.Zones = append(v.Zones, upTo(o, o, full(9+o)...))
		v.Held = append(v.Held, put(o, 1+o%9, o%64))
		v.Bodies = append(v.Bodies, api.Body{Object: 255 - o, Stamp: at(1+(255-o)%9, (255-o)%64), Value: bytes.Repeat([]byte{byte(o)}, size)})
	}
	return v
}

// someViews: views that are formed.
func someViews() []api.View {
	both := vec(at(5, 0), at(5, 1))
	return []api.View{
		{}, {Room: 9}, {Room: 1 << 24}, {Known: vec(), Zones: zones(), Held: row(), Bodies: bodies()}, someView(),
		{Known: vec(at(1, 0))}, {Known: vec(at(1, 0)), Zones: zones(upTo(0, 255))},
		{Known: vec(at(1, 63)), Zones: zones(upTo(255, 255)), Held: row(put(0, 1, 63)), Bodies: bodies(body(0, 1, 63, ""))},
		{Known: vec(at(api.MaxCount, 63)), Held: row(put(255, api.MaxCount, 63)), Bodies: bodies(body(255, api.MaxCount, 63, "z")), Room: 1},
		{Known: both, Held: row(put(3, 2, 0), put(4, 2, 0), gone(5, 2, 0)), Bodies: bodies(body(4, 2, 0, "one stamp of two"), body(3, 2, 0, "objects")), Room: 99},
		{Known: both, Zones: zones(upTo(3, 4), upTo(6, 8)), Held: row(put(0, 1, 0), put(5, 5, 1), put(255, 5, 0)), Room: 3},
		{Known: vec(at(5, 0), at(2, 3)), Held: row(put(3, 1, 0), put(21, 5, 0)), Bodies: bodies(body(3, 1, 0, "three")), Room: 8},
		{Known: vec(at(600, 0), at(2, 3)), Zones: zones(upTo(20, 21, at(5, 0), at(2, 3)))},
		{Known: vec(at(3, 2)), Held: row(put(7, 3, 2)), Bodies: bodies(body(7, 3, 2, strings.Repeat("v", 256))), Room: 256},
	}
}

// wrongViews: views that aren't formed.
func wrongViews() []api.View {
	var list []api.View
	change := func(f func(v *api.View)) {
		v := someView()
		f(&v)
		list = append(list, v)
	}
	for _, room := range []int{-1, math.MinInt, 1<<24 + 1, math.MaxInt} {
		list = append(list, api.View{Room: room})
	}
	change(func(v *api.View) { v.Room = 8 })
	change(func(v *api.View) { v.Known = nil })
	change(func(v *api.View) { slices.Reverse(v.Known) })
	change(func(v *api.View) { slices.Reverse(v.Zones) })
	change(func(v *api.View) { v.Zones[1].Vector = v.Known })
	change(func(v *api.View) { v.Zones[1].Span.Hi = 256 })
	change(func(v *api.View) { v.Zones[0].Span.Lo = -1 })
	change(func(v *api.View) { slices.Reverse(v.Held) })
	change(func(v *api.View) { v.Held[0].Gone = true })
	change(func(v *api.View) { v.Held[3].Stamp = at(2, 1) })
	change(func(v *api.View) { v.Held[3].Object = 256 })
	change(func(v *api.View) { v.Bodies[0].Stamp = at(2, 1) })
	change(func(v *api.View) { v.Bodies = append(v.Bodies, v.Bodies[2]) })
	change(func(v *api.View) { v.Bodies[0].Value = make([]byte, 257); v.Room = 999 })
	return list
}

// manySubs: so many of them, from some node on.
func manySubs(from, n int) []api.Sub {
	var l []api.Sub
	for i := range n {
		l = append(l, of(from+i, to(i, i+3)))
	}
	return l
}

// restingSubs: subscriptions at rest.
func restingSubs() [][]api.Sub {
	return [][]api.Sub{
		nil, subs(), subs(of(0, to(0, 0))), subs(of(63, to(255, 255))), subs(of(2, to(1, 3))), subs(of(0, to(0, 255)), of(1, evens()...), of(63, to(0, 1), to(3, 3))),
		subs(of(2, to(1, 3)), of(3, to(1, 3)), of(5, to(1, 3))), manySubs(0, 15), manySubs(0, 16), manySubs(48, 16), manySubs(49, 15),
	}
}

// wrongSubs: subscriptions that aren't at rest.
func wrongSubs() [][]api.Sub {
	list := [][]api.Sub{
		subs(of(-1, to(0, 0))), subs(of(64, to(0, 0))), subs(of(math.MinInt, to(0, 0))), subs(of(math.MaxInt, to(0, 0))),
		subs(of(2, to(0, 0)), of(1, to(0, 0))), subs(of(2, to(0, 0)), of(2, to(0, 0))), subs(of(2, to(0, 0)), of(3), of(4, to(1, 1))), subs(of(2)), subs(of(2, set()...)), subs(api.Sub{}),
		manySubs(0, 17), manySubs(47, 17), manySubs(0, 64), manySubs(48, 17), manySubs(-1, 16),
	}
	for _, l := range someSets() {
		list = append(list, subs(of(1, l...)), subs(of(1, to(0, 0)), of(2, l...)))
	}
	for _, s := range subs(api.Sub{Session: 1}, api.Sub{Session: -1}, api.Sub{Seq: 1}, api.Sub{Seq: -1}, api.Sub{Live: true}, api.Sub{Heard: true}, api.Sub{Idle: true}, api.Sub{Session: 1, Seq: 2, Live: true, Heard: true, Idle: true}) {
		s.From, s.Interest = 2, set(to(1, 3))
		list = append(list, subs(s), subs(s, of(3, to(4, 4))), subs(of(1, to(4, 4)), s))
	}
	return slices.DeleteFunc(list, wordRest)
}

// entries: one of each kind and shape, with something in each field that is named.
func entries() []api.Entry {
	return []api.Entry{
		{Kind: 1, Note: own(put(21, 600, 0))},
		{Kind: 2, Body: body(7, 300, 3, "abc")},
		{Kind: 3, Note: own(put(21, 600, 0)), Body: body(21, 600, 0, "own")},
		{Kind: 3, Note: own(gone(21, 600, 0))},
		{Kind: 4, From: 2, Interest: set(to(1, 3))},
		{Kind: 4, From: 2},
		{Kind: 5, View: someView(), Subs: subs(of(2, to(1, 3)), of(63, to(0, 0), to(255, 255)))},
	}
}

// greatest: the checkpoint of as much as there can be.
func greatest() api.Entry {
	l := manySubs(48, 16)
	for i := range l {
		l[i].Interest = evens()
	}
	return api.Entry{Kind: 5, View: everyObject(256), Subs: l}
}

// withFields: entries of each kind and shape, with each field on its own set to what may or may not stand there.
func withFields(change func(f func(x *api.Entry))) {
	change(func(x *api.Entry) {})
	for _, n := range someNotes() {
		change(func(x *api.Entry) { x.Note = n })
		change(func(x *api.Entry) {
			x.Note = n
			if len(n.Writes) > 0 {
				x.Body.Object, x.Body.Stamp = n.Writes[0].Object, n.Writes[0].Stamp
			}
		})
	}
	for _, v := range someVectors() {
		change(func(x *api.Entry) { x.Note.Start = v })
		change(func(x *api.Entry) { x.Note.End = v })
		change(func(x *api.Entry) { x.View.Known = v })
	}
	for _, l := range someSets() {
		change(func(x *api.Entry) { x.Note.Blur = l })
		change(func(x *api.Entry) { x.Interest = l })
	}
	for _, l := range [][]api.Write{nil, row(), row(put(3, 1, 0)), row(put(21, 600, 0), put(22, 600, 0)), row(gone(3, 5, 0)), row(put(2, 7, 1))} {
		change(func(x *api.Entry) { x.Note.Writes = l })
		change(func(x *api.Entry) { x.View.Held = l })
	}
	for _, y := range someBodies() {
		change(func(x *api.Entry) { x.Body = y })
		change(func(x *api.Entry) { x.Body.Object = y.Object })
		change(func(x *api.Entry) { x.Body.Stamp = y.Stamp })
		change(func(x *api.Entry) { x.Body.Value = y.Value })
		change(func(x *api.Entry) { x.View.Bodies = bodies(y) })
	}
	for _, n := range []int{0, 1, 62, 63, 64, 65, -1, 127, 128, 256, math.MaxInt, math.MinInt} {
		change(func(x *api.Entry) { x.From = n })
		change(func(x *api.Entry) { x.View.Room = n })
	}
	for _, v := range append(someViews(), wrongViews()...) {
		change(func(x *api.Entry) { x.View = v })
	}
	for _, l := range append(restingSubs(), wrongSubs()...) {
		change(func(x *api.Entry) { x.Subs = l })
	}
	for _, z := range [][]api.Zone{nil, zones(), zones(upTo(3, 5)), zones(upTo(0, 0, at(1, 0))), zones(upTo(5, 3))} {
		change(func(x *api.Entry) { x.View.Zones = z })
	}
	for _, kind := range []int{0, 1, 2, 3, 4, 5, 6, 7, -1, 127, 128, 256, 257, 1 << 32, math.MaxInt, math.MinInt} {
		change(func(x *api.Entry) { x.Kind = kind })
		change(func(x *api.Entry) { *x = api.Entry{Kind: kind} })
	}
	change(func(x *api.Entry) {
		*x = api.Entry{Kind: x.Kind, Note: api.Note{Start: vec(), End: vec(), Blur: set(), Writes: row()}, Body: api.Body{Value: []byte{}}, Interest: set(), View: api.View{Known: vec(), Zones: zones(), Held: row(), Bodies: bodies()}, Subs: subs()}
	})
}

// someEntries: all of those.
func someEntries() []api.Entry {
	var list []api.Entry
	withFields(func(f func(x *api.Entry)) {
		for _, x := range entries() {
			f(&x)
			list = append(list, x)
		}
	})
	return append(list, api.Entry{}, greatest())
}

// formedEntries: those that are formed.
func formedEntries() []api.Entry {
	return slices.DeleteFunc(someEntries(), func(x api.Entry) bool { return !wordFormed(x) })
}
