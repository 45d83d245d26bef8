package entry_test

import (
	"reflect"
	"slices"
	"testing"

	"telltale/api"
	"telltale/entry"
)

// roomy: a copy of a list with spare room, filled with what would be seen if it were changed.
func roomy[T any](list []T, fill ...T) []T {
	return append(slices.Clone(list), fill...)[:len(list)]
}

func roomyStamps(v []api.Stamp) []api.Stamp { return roomy(v, at(77, 7), at(0, -7)) }

func roomySpans(l []api.Span) []api.Span { return roomy(l, to(77, 70), to(-7, 300)) }

func roomyBytes(b []byte) []byte { return roomy(b, '#', '#', '#') }

func roomyBodies(l []api.Body) []api.Body {
	out := roomy(l, body(300, 0, 99, "spare"), body(-1, 5, 5, "spare"))
	for i, x := range out {
		out[i].Value = roomyBytes(x.Value)
	}
	return out
}

func roomyView(v api.View) api.View {
	v.Known = roomyStamps(v.Known)
	v.Zones = roomy(v.Zones, upTo(9, 8, at(-9, 9)), upTo(-7, 300))
	for i, z := range v.Zones {
		v.Zones[i].Vector = roomyStamps(z.Vector)
	}
	v.Held = roomy(v.Held, put(300, 0, 99), put(-1, 5, 5))
	v.Bodies = roomyBodies(v.Bodies)
	return v
}

func roomySubs(l []api.Sub) []api.Sub {
	out := roomy(l, of(99, to(9, 8)), api.Sub{From: -5, Session: 5, Live: true})
	for i, s := range out {
		out[i].Interest = roomySpans(s.Interest)
	}
	return out
}

func roomyEntry(x api.Entry) api.Entry {
	n := x.Note
	x.Note = api.Note{Start: roomyStamps(n.Start), End: roomyStamps(n.End), Blur: roomySpans(n.Blur), Writes: roomy(n.Writes, put(300, 0, 99), put(-1, 5, 5))}
	x.Body.Value = roomyBytes(x.Body.Value)
	x.Interest = roomySpans(x.Interest)
	x.View, x.Subs = roomyView(x.View), roomySubs(x.Subs)
	return x
}

// whole: a copy of all that a thing holds, its lists' spare room too.
func whole[T any](x T) T {
	v := reflect.ValueOf(&x).Elem()
	makeWhole(v)
	return x
}

func makeWhole(v reflect.Value) {
	switch v.Kind() {
	case reflect.Slice:
		fresh := reflect.MakeSlice(v.Type(), v.Cap(), v.Cap())
		reflect.Copy(fresh, v.Slice(0, v.Cap()))
		for i := range fresh.Len() {
			makeWhole(fresh.Index(i))
		}
		v.Set(fresh)
	case reflect.Struct:
		for i := range v.NumField() {
			makeWhole(v.Field(i))
		}
	}
}

// leaf: a list that was answered, as it was then.
type leaf struct {
	same     func() bool
	scribble func()
}

// leafOf: a list that is scribbled over, its spare room too.
func leafOf[T any](list []T, fill T) leaf {
	was := slices.Clone(list)
	return leaf{
		func() bool { return len(list) == 0 || reflect.DeepEqual(list, was) },
		func() {
			for i := range list[:cap(list)] {
				list[:cap(list)][i] = fill
			}
		},
	}
}

func viewLeaves(v api.View) []leaf {
	list := []leaf{leafOf(v.Known, at(-1, -1)), leafOf(v.Held, put(-1, -1, -1))}
	for _, z := range v.Zones {
		list = append(list, leafOf(z.Vector, at(-1, -1)))
	}
	for _, x := range v.Bodies {
		list = append(list, leafOf(x.Value, '-'))
	}
	return append(list, leafOf(v.Zones, upTo(-4, -4)), leafOf(v.Bodies, body(-4, -4, -4, "")))
}

func subLeaves(l []api.Sub) []leaf {
	var list []leaf
	for _, s := range l {
		list = append(list, leafOf(s.Interest, to(-3, -3)))
	}
	return append(list, leafOf(l, of(-5)))
}

func entryLeaves(x api.Entry) []leaf {
	list := []leaf{leafOf(x.Note.Start, at(-1, -1)), leafOf(x.Note.End, at(-1, -1)), leafOf(x.Note.Blur, to(-3, -3)), leafOf(x.Note.Writes, put(-2, -2, -2)), leafOf(x.Body.Value, '-'), leafOf(x.Interest, to(-3, -3))}
	return slices.Concat(list, viewLeaves(x.View), subLeaves(x.Subs))
}

// arguments: what all calls can be given.
type arguments struct {
	V api.View
	L []api.Sub
	X api.Entry
	B []byte
}

func (a arguments) roomy() arguments {
	return arguments{roomyView(a.V), roomySubs(a.L), roomyEntry(a.X), roomyBytes(a.B)}
}

// answers: all lists that all calls answer.
func (a arguments) answers() []leaf {
	entry.Formed(a.X)
	b, _ := entry.Encode(a.X)
	x, _ := entry.Decode(a.B)
	v, l, _ := entry.Play(a.V, a.L, a.X)
	return slices.Concat([]leaf{leafOf(b, '-')}, entryLeaves(x), viewLeaves(v), subLeaves(l))
}

// someArguments: many of them, formed and not.
func someArguments() []arguments {
	var list []arguments
	views, resting := append(someViews(), wrongViews()...), append(restingSubs(), wrongSubs()[:20]...)
	for i, x := range someEntries() {
		list = append(list, arguments{someView(), resting[6+i%2], x, bytesOf(numbersOf(x)...)})
		list = append(list, arguments{views[i%len(views)], resting[i%len(resting)], x, bytesOf(numbersOf(entries()[i%7])...)})
	}
	for _, x := range entries() {
		for _, v := range views {
			list = append(list, arguments{v, manySubs(0, 16), x, bytesOf(numbersOf(x)...)})
		}
	}
	return list
}

// check: what is handed in stays as it is, its spare room too; what is answered shares memory with nothing.
func (a arguments) check(t *testing.T) {
	t.Helper()
	was := whole(a)
	list := append(a.answers(), a.answers()...)
	if !reflect.DeepEqual(whole(a), was) {
		t.Fatal("changed:", a)
	}
	for i, x := range list {
		if !x.same() {
			t.Fatal(a, i, "two answers share")
		}
		x.scribble()
	}
	if !reflect.DeepEqual(whole(a), was) {
		t.Fatal("an answer shares with an argument:", a)
	}
}

// P1 (rule 5): memory is nobody else's.
func TestMemory(t *testing.T) {
	for _, a := range someArguments() {
		a.roomy().check(t)
	}
}

// P1 (rule 5): no two lists of one answer share memory, even if those that were handed in do.
func TestListsOfOneAnswerAreApart(t *testing.T) {
	shared, value, interest := vec(at(5, 0), at(2, 1), at(3, 2)), []byte("shared by all"), set(to(1, 3), to(9, 9), to(20, 30))
	v := api.View{Known: shared, Zones: zones(upTo(3, 4, shared[:1]...), upTo(5, 6, shared[:2]...), upTo(8, 9, shared[:1]...)), Room: 99}
	v.Zones[2].Vector = v.Zones[0].Vector
	for _, o := range []int{1, 2, 3, 8} {
		v.Held = append(v.Held, put(o, 1+o%5, 0))
		v.Bodies = append(v.Bodies, api.Body{Object: o, Stamp: at(1+o%5, 0), Value: value})
	}
	l := subs(of(2, interest...), of(3, interest...), of(4, interest[:2]...))
	for i := range l {
		l[i].Interest = interest[:3-i/2]
	}
	own := api.Note{Start: shared, End: shared, Blur: interest, Writes: row(put(2, 1, 0))}
	own.Blur = interest[1:]
	for _, x := range []api.Entry{{Kind: 1, Note: api.Note{Start: shared, End: shared, Blur: interest}}, {Kind: 2, Body: v.Bodies[2]}, {Kind: 3, Note: own, Body: api.Body{Object: 2, Stamp: at(1, 0), Value: value}}, {Kind: 4, From: 5, Interest: interest}, {Kind: 4, From: 3, Interest: interest}, {Kind: 4, From: 2}, {Kind: 5, View: v, Subs: l}} {
		if !entry.Formed(x) {
			t.Fatal(x)
		}
		a := arguments{v, l, x, bytesOf(numbersOf(x)...)}
		a.check(t)
		if string(value) != "shared by all" || !slices.Equal(shared, vec(at(5, 0), at(2, 1), at(3, 2))) || !slices.Equal(interest, set(to(1, 3), to(9, 9), to(20, 30))) {
			t.Fatal("an answer shares with an argument:", a)
		}
	}
}

// P1 (rule 6): what stands in spare room is nobody's; nothing is kept from call to call.
func TestSpareRoomSaysNothing(t *testing.T) {
	for range 2 {
		for _, x := range someEntries() {
			checkEntry(t, roomyEntry(x))
			checkPlay(t, roomyView(someView()), roomySubs(manySubs(2, 3)), roomyEntry(x))
			checkDecode(t, roomyBytes(bytesOf(numbersOf(x)...)))
		}
		for _, x := range entries() {
			b := bytesOf(numbersOf(x)...)
			for n := range b {
				if got, e := entry.Decode(b[:n]); e != api.ErrForm || !same(got, api.Entry{}) {
					t.Fatalf("%x, the first %d bytes: %v %d", b, n, got, e)
				}
			}
		}
	}
}

// P1 (rule 4): nothing hangs on whether what holds nothing is nil or empty.
func TestNothingIsNothing(t *testing.T) {
	empty := api.View{Known: vec(), Zones: zones(), Held: row(), Bodies: bodies()}
	nothing := api.Entry{Note: api.Note{Start: vec(), End: vec(), Blur: set(), Writes: row()}, Body: api.Body{Value: []byte{}}, Interest: set(), View: empty, Subs: subs()}
	for kind := range 8 {
		for _, x := range []api.Entry{{}, nothing} {
			x.Kind = kind
			if want := kind == 1 || kind == 4 || kind == 5; checkEntry(t, x) != want {
				t.Error(kind, "of nothing: formed is not", want)
			}
			for _, v := range []api.View{{}, empty} {
				for _, l := range [][]api.Sub{nil, subs()} {
					if gotV, gotL, e := checkPlay(t, v, l, x); e == api.OK && (!same(gotV, api.View{}) || len(gotL) > 0) {
						t.Error(kind, gotV, gotL)
					}
				}
			}
		}
	}
	written := nothing
	written.Kind, written.Note.End, written.Note.Writes = 3, vec(at(1, 0)), row(gone(7, 1, 0))
	if !checkEntry(t, written) {
		t.Error("a deletion with an empty value")
	}
}
