package view_test

// The document's words on views, told once more, object by object.

import (
	"bytes"
	"slices"

	"telltale/api"
	"telltale/trust"
)

func at(count, node int) api.Stamp { return api.Stamp{Count: count, Node: node} }

func to(lo, hi int) api.Span { return api.Span{Lo: lo, Hi: hi} }

// put, gone: a write of an object, and one that deletes it.
func put(o, count, node int) api.Write { return api.Write{Stamp: at(count, node), Object: o} }

func gone(o, count, node int) api.Write {
	return api.Write{Stamp: at(count, node), Object: o, Gone: true}
}

// body: a body of an object and a stamp.
func body(o, count, node int, value string) api.Body {
	return api.Body{Object: o, Stamp: at(count, node), Value: []byte(value)}
}

// upTo: the zone from lo to hi, up to a vector.
func upTo(lo, hi int, v ...api.Stamp) api.Zone { return api.Zone{Span: to(lo, hi), Vector: v} }

func vec(list ...api.Stamp) []api.Stamp { return list }

func set(list ...api.Span) []api.Span { return list }

func row(list ...api.Write) []api.Write { return list }

func zones(list ...api.Zone) []api.Zone { return list }

func bodies(list ...api.Body) []api.Body { return list }

// counts: of each node.
type counts [64]int

// countsOf: those of a vector.
func countsOf(v []api.Stamp) counts {
	var c counts
	for _, s := range v {
		c[s.Node] = s.Count
	}
	return c
}

// list: the vector of these counts.
func (c counts) list() []api.Stamp {
	var v []api.Stamp
	for node, count := range c {
		if count > 0 {
			v = append(v, at(count, node))
		}
	}
	return v
}

// covers: does a vector cover another one?
func covers(a, b []api.Stamp) bool {
	c, d := countsOf(a), countsOf(b)
	for node := range c {
		if d[node] > c[node] {
			return false
		}
	}
	return true
}

// has: does a vector have a stamp?
func has(v []api.Stamp, s api.Stamp) bool {
	return rightStamp(s) && s.Count <= countsOf(v)[s.Node]
}

func rightStamp(s api.Stamp) bool { return s.Count >= 1 && s.Node >= 0 && s.Node <= 63 }

func object(o int) bool { return o >= 0 && o <= 255 }

// newer: does a come behind b?
func newer(a, b api.Stamp) bool {
	return a.Count > b.Count || a.Count == b.Count && a.Node > b.Node
}

// isIn: is an object in any list of spans?
func isIn(l []api.Span, o int) bool {
	for _, s := range l {
		if object(o) && o >= s.Lo && o <= s.Hi {
			return true
		}
	}
	return false
}

// setWhere: the set of the objects of which something holds.
func setWhere(holds func(o int) bool) []api.Span {
	var l []api.Span
	for o := range 256 {
		last := len(l) - 1
		switch {
		case !holds(o):
		case last >= 0 && l[last].Hi == o-1:
			l[last].Hi = o
		default:
			l = append(l, to(o, o))
		}
	}
	return l
}

func wordVector(v []api.Stamp) bool {
	for i, s := range v {
		if !rightStamp(s) || i > 0 && v[i-1].Node >= s.Node {
			return false
		}
	}
	return true
}

// wordZones: zones that are formed, beside what is known.
func wordZones(z []api.Zone, known []api.Stamp) bool {
	for i, x := range z {
		if !object(x.Span.Lo) || !object(x.Span.Hi) || x.Span.Hi < x.Span.Lo || !wordVector(x.Vector) {
			return false
		}
		if !covers(known, x.Vector) || covers(x.Vector, known) {
			return false
		}
		for _, y := range z[:i] {
			if y.Span.Hi >= x.Span.Lo || y.Span.Hi == x.Span.Lo-1 && slices.Equal(y.Vector, x.Vector) {
				return false
			}
		}
	}
	return true
}

// blurred: is an object in a zone?
func blurred(v api.View, o int) bool {
	return slices.ContainsFunc(v.Zones, func(x api.Zone) bool { return o >= x.Span.Lo && o <= x.Span.Hi })
}

// wordReach: an object's reach.
func wordReach(v api.View, o int) []api.Stamp {
	for _, x := range v.Zones {
		if o >= x.Span.Lo && o <= x.Span.Hi {
			return x.Vector
		}
	}
	return v.Known
}

// heldOf: the write of an object that is held.
func heldOf(v api.View, o int) (api.Write, bool) {
	for _, w := range v.Held {
		if w.Object == o {
			return w, true
		}
	}
	return api.Write{}, false
}

// bodyOf: the value of a write that is there.
func bodyOf(v api.View, w api.Write) ([]byte, bool) {
	for _, x := range v.Bodies {
		if x.Object == w.Object && x.Stamp == w.Stamp {
			return x.Value, true
		}
	}
	return nil, false
}

// wordHeld: what the chapter asks of what is held.
func wordHeld(v api.View) bool {
	for i, w := range v.Held {
		if !object(w.Object) || !rightStamp(w.Stamp) || i > 0 && v.Held[i-1].Object >= w.Object || !has(wordReach(v, w.Object), w.Stamp) {
			return false
		}
	}
	return true
}

func wordBody(x api.Body) bool { return object(x.Object) && rightStamp(x.Stamp) && len(x.Value) <= 256 }

// wordBodies: what the chapter asks of bodies.
func wordBodies(v api.View) bool {
	used := 0
	for i, x := range v.Bodies {
		w, is := heldOf(v, x.Object)
		if !wordBody(x) || !is || w.Stamp != x.Stamp || w.Gone {
			return false
		}
		for _, y := range v.Bodies[:i] {
			if y.Object == x.Object {
				return false
			}
		}
		used += len(x.Value)
	}
	return v.Room >= 0 && v.Room <= 1<<24 && used <= v.Room
}

// wordFormed: what the chapter asks of a view.
func wordFormed(v api.View) bool {
	return wordVector(v.Known) && wordZones(v.Zones, v.Known) && wordHeld(v) && wordBodies(v)
}

// wordNote: what layer 4 asks of a note.
func wordNote(n api.Note) bool {
	if !wordVector(n.Start) || !wordVector(n.End) || !covers(n.End, n.Start) {
		return false
	}
	if !slices.Equal(n.Blur, setWhere(func(o int) bool { return isIn(n.Blur, o) })) {
		return false
	}
	for i, w := range n.Writes {
		if !object(w.Object) || !has(n.End, w.Stamp) || isIn(n.Blur, w.Object) || i > 0 && n.Writes[i-1].Object >= w.Object {
			return false
		}
	}
	return true
}

// wordTake: a view behind a note.
func wordTake(v api.View, n api.Note) (api.View, api.Errno) {
	switch {
	case !wordFormed(v) || !wordNote(n):
		return api.View{}, api.ErrArg
	case !covers(v.Known, n.Start):
		return api.View{}, api.ErrGap
	}
	after := api.View{Room: v.Room}
	var e api.Errno
	if after.Zones, after.Known, e = trust.Take(v.Zones, v.Known, n); e != api.OK {
		return api.View{}, e
	}
	for o := range 256 {
		w, is := heldOf(v, o)
		for _, told := range n.Writes {
			if told.Object == o && has(wordReach(after, o), told.Stamp) && (!is || newer(told.Stamp, w.Stamp)) {
				w, is = told, true
			}
		}
		if is {
			after.Held = append(after.Held, w)
		}
	}
	for _, x := range v.Bodies {
		if w, _ := heldOf(after, x.Object); w.Stamp == x.Stamp {
			after.Bodies = append(after.Bodies, x)
		}
	}
	return after, api.OK
}

// wordPut: a view behind a body: of the bodies with x as the last one as many last ones as there is room for.
func wordPut(v api.View, x api.Body) (api.View, api.Errno) {
	w, is := heldOf(v, x.Object)
	switch {
	case !wordFormed(v) || !wordBody(x):
		return api.View{}, api.ErrArg
	case !is || w.Stamp != x.Stamp || w.Gone:
		return api.View{}, api.ErrStale
	}
	all := slices.DeleteFunc(slices.Clone(v.Bodies), func(y api.Body) bool { return y.Object == x.Object })
	all = append(all, x)
	from, left := len(all), v.Room
	for from > 0 && len(all[from-1].Value) <= left {
		from--
		left -= len(all[from].Value)
	}
	v.Bodies = all[from:]
	return v, api.OK
}

// writing: the arguments of a write.
type writing struct {
	me, object, skip int
	value            []byte
	gone             bool
}

// wordWrite: the view and the note of a write.
func wordWrite(v api.View, x writing) (api.View, api.Note, api.Errno) {
	if !wordFormed(v) || !object(x.object) || len(x.value) > 256 || x.gone && len(x.value) > 0 || x.me < 0 || x.me > 63 || x.skip < 0 {
		return api.View{}, api.Note{}, api.ErrArg
	}
	greatest, end := 0, countsOf(v.Known)
	for _, count := range end {
		greatest = max(greatest, count)
	}
	if uint64(greatest)+1+uint64(x.skip) > 1<<63-1 {
		return api.View{}, api.Note{}, api.ErrOverflow
	}
	s := at(greatest+1+x.skip, x.me)
	end[x.me] = s.Count
	n := api.Note{Start: v.Known, End: end.list(), Writes: row(api.Write{Stamp: s, Object: x.object, Gone: x.gone})}
	after, e := wordTake(v, n)
	if e == api.OK && !x.gone {
		after, e = wordPut(after, api.Body{Object: x.object, Stamp: s, Value: x.value})
	}
	if e != api.OK {
		return api.View{}, api.Note{}, e
	}
	return after, n, api.OK
}

// wordRead: what is read of an object.
func wordRead(v api.View, o int) ([]byte, api.Write, api.Errno) {
	w, is := heldOf(v, o)
	value, there := bodyOf(v, w)
	switch {
	case !wordFormed(v) || !object(o):
		return nil, api.Write{}, api.ErrArg
	case blurred(v, o):
		return nil, api.Write{}, api.ErrImprecise
	case !is:
		return nil, api.Write{}, api.ErrNotFound
	case w.Gone:
		return nil, w, api.OK
	case !there:
		return nil, w, api.ErrNoBody
	}
	return value, w, api.OK
}

// wordServe: the body of an object, blurred or not.
func wordServe(v api.View, o int) (api.Body, api.Errno) {
	w, is := heldOf(v, o)
	value, there := bodyOf(v, w)
	switch {
	case !wordFormed(v) || !object(o):
		return api.Body{}, api.ErrArg
	case !is:
		return api.Body{}, api.ErrNotFound
	case w.Gone:
		return api.Body{}, api.ErrStale
	case !there:
		return api.Body{}, api.ErrNoBody
	}
	return api.Body{Object: o, Stamp: w.Stamp, Value: value}, api.OK
}

// wordSince: of each node the least count of the reaches of an interest's objects.
func wordSince(v api.View, interest []api.Span) []api.Stamp {
	if !wordFormed(v) {
		return nil
	}
	least, none := countsOf(v.Known), true
	for o := range 256 {
		if !isIn(interest, o) {
			continue
		}
		reach := countsOf(wordReach(v, o))
		for node := range least {
			if none || reach[node] < least[node] {
				least[node] = reach[node]
			}
		}
		none = false
	}
	return least.list()
}

// wordTelling: the note up to an end of the objects of which something holds, and the writes that are held of them.
func wordTelling(v api.View, end []api.Stamp, holds func(o int) bool) api.Note {
	n := api.Note{End: end, Blur: setWhere(func(o int) bool { return !holds(o) })}
	for _, w := range v.Held {
		if holds(w.Object) {
			n.Writes = append(n.Writes, w)
		}
	}
	return n
}

// wordSum: first what is sharp, then reach by reach, object by object.
func wordSum(v api.View, interest []api.Span) ([]api.Note, api.Errno) {
	if !wordFormed(v) {
		return nil, api.ErrArg
	}
	list := []api.Note{wordTelling(v, v.Known, func(o int) bool { return isIn(interest, o) && !blurred(v, o) })}
	var told [][]api.Stamp
	for o := range 256 {
		reach := wordReach(v, o)
		is := slices.ContainsFunc(told, func(r []api.Stamp) bool { return slices.Equal(r, reach) })
		if is || !isIn(interest, o) || !blurred(v, o) {
			continue
		}
		told = append(told, reach)
		list = append(list, wordTelling(v, reach, func(p int) bool {
			return isIn(interest, p) && blurred(v, p) && slices.Equal(wordReach(v, p), reach)
		}))
	}
	return list, api.OK
}

// wordLacks: the objects of an interest whose value is known of, but isn't there.
func wordLacks(v api.View, interest []api.Span) ([]int, api.Errno) {
	if !wordFormed(v) {
		return nil, api.ErrArg
	}
	var list []int
	for o := range 256 {
		w, is := heldOf(v, o)
		if _, there := bodyOf(v, w); is && !w.Gone && !there && isIn(interest, o) {
			list = append(list, o)
		}
	}
	return list, api.OK
}

func sameBody(a, b api.Body) bool {
	return a.Object == b.Object && a.Stamp == b.Stamp && bytes.Equal(a.Value, b.Value)
}

func sameZone(a, b api.Zone) bool { return a.Span == b.Span && slices.Equal(a.Vector, b.Vector) }

// sameView: do two views say the same? A list that holds nothing may be nil or empty.
func sameView(a, b api.View) bool {
	return slices.Equal(a.Known, b.Known) && slices.EqualFunc(a.Zones, b.Zones, sameZone) && slices.Equal(a.Held, b.Held) &&
		slices.EqualFunc(a.Bodies, b.Bodies, sameBody) && a.Room == b.Room
}

func sameNote(a, b api.Note) bool {
	return slices.Equal(a.Start, b.Start) && slices.Equal(a.End, b.End) && slices.Equal(a.Blur, b.Blur) && slices.Equal(a.Writes, b.Writes)
}
