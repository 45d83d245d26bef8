package entry_test

// The document's words on entries, told once more: by fields' names, by numbers and by nodes.

import (
	"bytes"
	"encoding/binary"
	"math"
	"reflect"
	"slices"

	"telltale/api"
	"telltale/note"
	"telltale/span"
	"telltale/view"
)

func at(count, node int) api.Stamp { return api.Stamp{Count: count, Node: node} }

func to(lo, hi int) api.Span { return api.Span{Lo: lo, Hi: hi} }

// put, gone: a write of an object, and one that deletes it.
func put(o, count, node int) api.Write { return api.Write{Stamp: at(count, node), Object: o} }

func gone(o, count, node int) api.Write {
	return api.Write{Stamp: at(count, node), Object: o, Gone: true}
}

// body: a body of an object and a stamp.
func body(o, count, node int, value string) api.Body {
	return api.Body{Object: o, Stamp: at(count, node), Value: []byte(value)}
}

// upTo: the zone from lo to hi, up to a vector.
func upTo(lo, hi int, v ...api.Stamp) api.Zone { return api.Zone{Span: to(lo, hi), Vector: v} }

// of: a subscription at rest.
func of(from int, interest ...api.Span) api.Sub { return api.Sub{From: from, Interest: interest} }

func vec(list ...api.Stamp) []api.Stamp { return list }

func set(list ...api.Span) []api.Span { return list }

func row(list ...api.Write) []api.Write { return list }

func zones(list ...api.Zone) []api.Zone { return list }

func bodies(list ...api.Body) []api.Body { return list }

func subs(list ...api.Sub) []api.Sub { return list }

// plain: a thing without the difference of nil and empty lists.
func plain[T any](x T) T {
	makePlain(reflect.ValueOf(&x).Elem())
	return x
}

func makePlain(v reflect.Value) {
	switch v.Kind() {
	case reflect.Slice:
		if v.Len() == 0 {
			v.SetZero()
			return
		}
		fresh := reflect.MakeSlice(v.Type(), v.Len(), v.Len())
		reflect.Copy(fresh, v)
		for i := range fresh.Len() {
			makePlain(fresh.Index(i))
		}
		v.Set(fresh)
	case reflect.Struct:
		for i := range v.NumField() {
			makePlain(v.Field(i))
		}
	}
}

// same: do two things say the same? A list that holds nothing may be nil or empty.
func same[T any](a, b T) bool { return reflect.DeepEqual(plain(a), plain(b)) }

// onlyHas: are all fields but those of these names zero, or empty lists?
func onlyHas[T any](x T, names ...string) bool {
	v := reflect.ValueOf(plain(x))
	for i := range v.NumField() {
		if !slices.Contains(names, v.Type().Field(i).Name) && !v.Field(i).IsZero() {
			return false
		}
	}
	return true
}

func wordBody(x api.Body) bool {
	return x.Object >= 0 && x.Object <= 255 && x.Stamp.Count >= 1 && x.Stamp.Node >= 0 && x.Stamp.Node <= 63 && len(x.Value) <= 256
}

// wordRest: are these subscriptions at rest?
func wordRest(l []api.Sub) bool {
	if len(l) > 16 {
		return false
	}
	for i, s := range l {
		if s.From < 0 || s.From > 63 || i > 0 && l[i-1].From >= s.From || len(s.Interest) == 0 || !span.Formed(s.Interest) || !onlyHas(s, "From", "Interest") {
			return false
		}
	}
	return true
}

// wordFormed: what the chapter asks of an entry, kind by kind.
func wordFormed(x api.Entry) bool {
	switch x.Kind {
	case 1:
		return onlyHas(x, "Kind", "Note") && note.Formed(x.Note)
	case 2:
		return onlyHas(x, "Kind", "Body") && wordBody(x.Body)
	case 3:
		if !onlyHas(x, "Kind", "Note", "Body") || !note.Formed(x.Note) || len(x.Note.Writes) != 1 {
			return false
		}
		if x.Note.Writes[0].Gone {
			return same(x.Body, api.Body{})
		}
		return wordBody(x.Body) && x.Note.Writes[0] == api.Write{Stamp: x.Body.Stamp, Object: x.Body.Object}
	case 4:
		return onlyHas(x, "Kind", "From", "Interest") && x.From >= 0 && x.From <= 63 && span.Formed(x.Interest)
	case 5:
		return onlyHas(x, "Kind", "View", "Subs") && view.Formed(x.View) && wordRest(x.Subs)
	}
	return false
}

// What the document says of bytes: each thing as the numbers that it is made of, and a number's bytes by the library.

func numbersOfVector(v []api.Stamp) []int {
	list := []int{len(v)}
	for _, s := range v {
		list = append(list, s.Node, s.Count)
	}
	return list
}

func numbersOfSet(l []api.Span) []int {
	list := []int{len(l)}
	for _, s := range l {
		list = append(list, s.Lo, s.Hi)
	}
	return list
}

func numbersOfWrites(l []api.Write) []int {
	list := []int{len(l)}
	for _, w := range l {
		isGone := 0
		if w.Gone {
			isGone = 1
		}
		list = append(list, w.Object, w.Stamp.Node, w.Stamp.Count, isGone)
	}
	return list
}

func numbersOfNote(n api.Note) []int {
	return slices.Concat(numbersOfVector(n.Start), numbersOfVector(n.End), numbersOfSet(n.Blur), numbersOfWrites(n.Writes))
}

func numbersOfBody(x api.Body) []int {
	list := []int{x.Object, x.Stamp.Node, x.Stamp.Count, len(x.Value)}
	for _, b := range x.Value {
		// A byte is laid as it is: told from a number by being below 0.
		list = append(list, -1-int(b))
	}
	return list
}

func numbersOfView(v api.View) []int {
	list := append(numbersOfVector(v.Known), len(v.Zones))
	for _, z := range v.Zones {
		list = slices.Concat(list, []int{z.Span.Lo, z.Span.Hi}, numbersOfVector(z.Vector))
	}
	list = append(slices.Concat(list, numbersOfWrites(v.Held)), len(v.Bodies))
	for _, x := range v.Bodies {
		list = append(list, numbersOfBody(x)...)
	}
	return append(list, v.Room)
}

func numbersOf(x api.Entry) []int {
	list := []int{x.Kind}
	switch x.Kind {
	case 1:
		return append(list, numbersOfNote(x.Note)...)
	case 2:
		return append(list, numbersOfBody(x.Body)...)
	case 3:
		list = append(list, numbersOfNote(x.Note)...)
		if len(x.Note.Writes) == 0 || !x.Note.Writes[0].Gone {
			list = append(list, numbersOfBody(x.Body)...)
		}
	case 4:
		return append(append(list, x.From), numbersOfSet(x.Interest)...)
	case 5:
		list = append(slices.Concat(list, numbersOfView(x.View)), len(x.Subs))
		for _, s := range x.Subs {
			list = append(append(list, s.From), numbersOfSet(s.Interest)...)
		}
	}
	return list
}

// bytesOf: numbers one behind the other, as bytes.
func bytesOf(list ...int) []byte {
	var b []byte
	for _, n := range list {
		if n < 0 && n >= -256 {
			b = append(b, byte(-1-n))
		} else {
			b = binary.AppendUvarint(b, uint64(n))
		}
	}
	return b
}

// taker: what the document says of reading: numbers are taken from the front; of as few bytes as can be.
type taker struct {
	b   []byte
	bad bool
}

func (t *taker) fail() {
	t.b, t.bad = nil, true
}

func (t *taker) number() int {
	n, size := binary.Uvarint(t.b)
	if size <= 0 || n > math.MaxInt64 || !bytes.Equal(binary.AppendUvarint(nil, n), t.b[:size]) {
		t.fail()
		return 0
	}
	t.b = t.b[size:]
	return int(n)
}

// times: a number, and so often what is to be done, as long as there are bytes.
func (t *taker) times(do func()) {
	for range t.number() {
		if t.bad {
			return
		}
		do()
	}
}

func (t *taker) vector() (v []api.Stamp) {
	t.times(func() {
		node := t.number()
		v = append(v, at(t.number(), node))
	})
	return v
}

func (t *taker) set() (l []api.Span) {
	t.times(func() {
		lo := t.number()
		l = append(l, to(lo, t.number()))
	})
	return l
}

func (t *taker) writes() (l []api.Write) {
	t.times(func() {
		o := t.number()
		node := t.number()
		w := put(o, t.number(), node)
		isGone := t.number()
		if isGone > 1 {
			t.fail()
		}
		w.Gone = isGone == 1
		l = append(l, w)
	})
	return l
}

func (t *taker) note() api.Note {
	n := api.Note{Start: t.vector()}
	n.End = t.vector()
	n.Blur = t.set()
	n.Writes = t.writes()
	return n
}

func (t *taker) body() api.Body {
	o := t.number()
	node := t.number()
	x := body(o, t.number(), node, "")
	t.times(func() {
		if len(t.b) == 0 {
			t.fail()
			return
		}
		x.Value = append(x.Value, t.b[0])
		t.b = t.b[1:]
	})
	return x
}

func (t *taker) view() api.View {
	v := api.View{Known: t.vector()}
	t.times(func() {
		lo := t.number()
		z := upTo(lo, t.number())
		z.Vector = t.vector()
		v.Zones = append(v.Zones, z)
	})
	v.Held = t.writes()
	t.times(func() { v.Bodies = append(v.Bodies, t.body()) })
	v.Room = t.number()
	return v
}

func (t *taker) entry() api.Entry {
	x := api.Entry{Kind: t.number()}
	switch x.Kind {
	case 1:
		x.Note = t.note()
	case 2:
		x.Body = t.body()
	case 3:
		x.Note = t.note()
		if len(x.Note.Writes) == 0 || !x.Note.Writes[0].Gone {
			x.Body = t.body()
		}
	case 4:
		x.From = t.number()
		x.Interest = t.set()
	case 5:
		x.View = t.view()
		t.times(func() {
			from := t.number()
			x.Subs = append(x.Subs, of(from, t.set()...))
		})
	}
	return x
}

// wordDecode: the entry of which these are the bytes, if there is one.
func wordDecode(b []byte) (api.Entry, bool) {
	t := &taker{b: b}
	x := t.entry()
	if t.bad || len(t.b) > 0 || !wordFormed(x) {
		return api.Entry{}, false
	}
	return x, true
}

// wordPlay: what comes of an entry: views by layer 13, subscriptions node by node.
func wordPlay(v api.View, l []api.Sub, x api.Entry) (api.View, []api.Sub, api.Errno) {
	if !view.Formed(v) || !wordRest(l) || !wordFormed(x) {
		return api.View{}, nil, api.ErrArg
	}
	e := api.OK
	switch x.Kind {
	case 1:
		v, e = view.Take(v, x.Note)
	case 2:
		v, e = view.Body(v, x.Body)
	case 3:
		v, e = view.Take(v, x.Note)
		if e == api.OK && !x.Note.Writes[0].Gone {
			v, e = view.Body(v, x.Body)
		}
	case 4:
		l, e = wordSubscribe(l, x.From, x.Interest)
	case 5:
		v, l = x.View, x.Subs
	}
	if e != api.OK {
		return api.View{}, nil, e
	}
	return v, l, api.OK
}

// wordSubscribe: of each node its interest, with another one of one node.
func wordSubscribe(l []api.Sub, from int, interest []api.Span) ([]api.Sub, api.Errno) {
	var wanted [64][]api.Span
	for _, s := range l {
		wanted[s.From] = s.Interest
	}
	wanted[from] = interest
	var after []api.Sub
	for node, interest := range wanted {
		if len(interest) > 0 {
			after = append(after, of(node, interest...))
		}
	}
	if len(after) > 16 {
		return nil, api.ErrMany
	}
	return after, api.OK
}
