package view_test

import (
	"bytes"
	"reflect"
	"slices"
	"testing"

	"telltale/api"
	"telltale/view"
)

// roomy: a copy of a list with spare room, filled with what would be seen if it were changed.
func roomy[T any](list []T, fill ...T) []T {
	return append(slices.Clone(list), fill...)[:len(list)]
}

func roomyStamps(v []api.Stamp) []api.Stamp { return roomy(v, at(77, 7), at(0, -7)) }

func roomyBytes(b []byte) []byte { return roomy(b, '#', '#', '#') }

func roomyView(v api.View) api.View {
	out := api.View{
		Known:  roomyStamps(v.Known),
		Zones:  roomy(v.Zones, upTo(9, 8, at(-9, 9)), upTo(-7, 300)),
		Held:   roomy(v.Held, put(300, 0, 99), put(-1, 5, 5)),
		Bodies: roomy(v.Bodies, body(300, 0, 99, "spare"), body(-1, 5, 5, "spare")),
		Room:   v.Room,
	}
	for i, x := range out.Zones {
		out.Zones[i].Vector = roomyStamps(x.Vector)
	}
	for i, x := range out.Bodies {
		out.Bodies[i].Value = roomyBytes(x.Value)
	}
	return out
}

func roomyNote(n api.Note) api.Note {
	return api.Note{Start: roomyStamps(n.Start), End: roomyStamps(n.End), Blur: roomy(n.Blur, to(77, 70), to(-7, 300)), Writes: roomy(n.Writes, put(300, 0, 99), put(-1, 5, 5))}
}

// whole: a copy of all that a list holds, its spare room too.
func whole[T any](list []T) []T { return slices.Clone(list[:cap(list)]) }

func wholeView(v api.View) api.View {
	out := api.View{Known: whole(v.Known), Zones: whole(v.Zones), Held: whole(v.Held), Bodies: whole(v.Bodies), Room: v.Room}
	for i, x := range out.Zones {
		out.Zones[i].Vector = whole(x.Vector)
	}
	for i, x := range out.Bodies {
		out.Bodies[i].Value = whole(x.Value)
	}
	return out
}

func wholeNote(n api.Note) api.Note {
	return api.Note{Start: whole(n.Start), End: whole(n.End), Blur: whole(n.Blur), Writes: whole(n.Writes)}
}

// arguments: what all calls can be given.
type arguments struct {
	v        api.View
	n        api.Note
	x        api.Body
	interest []api.Span
	value    []byte
}

func (a arguments) roomy() arguments {
	a.x.Value = roomyBytes(a.x.Value)
	return arguments{roomyView(a.v), roomyNote(a.n), a.x, roomy(a.interest, to(5, 4), to(8, 8)), roomyBytes(a.value)}
}

func (a arguments) whole() arguments {
	a.x.Value = whole(a.x.Value)
	return arguments{wholeView(a.v), wholeNote(a.n), a.x, whole(a.interest), whole(a.value)}
}

// someArguments: many of them, for views formed and not.
func someArguments() []arguments {
	var list []arguments
	views := append(formedViews()[:15], someView(), handView())
	for _, w := range wrongViews() {
		views = append(views, w.v)
	}
	for i, v := range views {
		for k, n := range someNotes() {
			xs := someBodies(v)
			list = append(list, arguments{v, n, xs[(7*i+k)%len(xs)], interests()[(i+k)%len(interests())], []byte("value"[:k%6])})
		}
	}
	return list
}

// leaf: a list that was answered, as it was then.
type leaf struct {
	same     func() bool
	scribble func()
}

// leafOf: a list that is scribbled over, its spare room too.
func leafOf[T any](list []T, fill T) leaf {
	was := slices.Clone(list)
	return leaf{
		func() bool { return len(list) == 0 || reflect.DeepEqual(list, was) },
		func() {
			for i := range list[:cap(list)] {
				list[:cap(list)][i] = fill
			}
		},
	}
}

func stampLeaf(v []api.Stamp) leaf { return leafOf(v, at(-1, -1)) }

func byteLeaf(b []byte) leaf { return leafOf(b, '-') }

func viewLeaves(v api.View) []leaf {
	list := []leaf{stampLeaf(v.Known), leafOf(v.Held, put(-1, -1, -1))}
	for _, x := range v.Zones {
		list = append(list, stampLeaf(x.Vector))
	}
	for _, x := range v.Bodies {
		list = append(list, byteLeaf(x.Value))
	}
	return append(list, leafOf(v.Zones, upTo(-4, -4)), leafOf(v.Bodies, body(-4, -4, -4, "")))
}

func noteLeaves(n api.Note) []leaf {
	return []leaf{stampLeaf(n.Start), stampLeaf(n.End), leafOf(n.Blur, to(-3, -3)), leafOf(n.Writes, put(-2, -2, -2))}
}

// answers: all lists that all calls answer.
func (a arguments) answers() []leaf {
	taken, _ := view.Take(a.v, a.n)
	put, _ := view.Body(a.v, a.x)
	list := append(viewLeaves(taken), viewLeaves(put)...)
	for _, gone := range []bool{false, true} {
		value := a.value
		if gone {
			value = nil
		}
		after, n, _ := view.Write(a.v, 1, a.x.Object, 0, value, gone)
		list = append(append(list, viewLeaves(after)...), noteLeaves(n)...)
	}
	sum, _ := view.Sum(a.v, a.interest)
	for _, n := range sum {
		list = append(list, noteLeaves(n)...)
	}
	for _, o := range []int{0, 1, 2, 3, 5, 9, 255} {
		value, _, _ := view.Read(a.v, o)
		x, _ := view.Serve(a.v, o)
		list = append(list, byteLeaf(value), byteLeaf(x.Value))
	}
	lacks, _ := view.Lacks(a.v, a.interest)
	return append(list, stampLeaf(view.Since(a.v, a.interest)), leafOf(lacks, -9), leafOf(sum, api.Note{}))
}

// P1 (rule 5): what is handed in stays as it is, its spare room too; what is answered shares memory with nothing.
func TestMemory(t *testing.T) {
	for _, a := range someArguments() {
		a := a.roomy()
		was := a.whole()
		view.Formed(a.v)
		list := append(a.answers(), a.answers()...)
		if !reflect.DeepEqual(a.whole(), was) {
			t.Fatal("changed:", a)
		}
		for i, x := range list {
			if !x.same() {
				t.Fatal(a, i, "two answers share")
			}
			x.scribble()
		}
		if !reflect.DeepEqual(a.whole(), was) {
			t.Fatal("an answer shares with an argument:", a)
		}
	}
}

// P1 (rule 5): no two lists of one answer share memory, even if those that were handed in do.
func TestListsOfOneAnswerAreApart(t *testing.T) {
	shared, value := vec(at(5, 0), at(2, 1), at(3, 2)), []byte("shared by all")
	v := api.View{Known: shared, Zones: zones(upTo(3, 4, shared[:1]...), upTo(5, 6, shared[:2]...), upTo(8, 9, shared[:1]...)), Room: 99}
	for _, o := range []int{1, 2, 3, 8} {
		v.Held = append(v.Held, put(o, 1+o%5, 0))
		v.Bodies = append(v.Bodies, api.Body{Object: o, Stamp: at(1+o%5, 0), Value: value})
	}
	a := arguments{v, api.Note{Start: shared, End: shared}, v.Bodies[2], set(to(0, 255)), value}
	if !view.Formed(a.v) {
		t.Fatal(a.v)
	}
	for i, x := range append(a.answers(), a.answers()...) {
		if !x.same() {
			t.Fatal(i, "shares with one ahead of it")
		}
		x.scribble()
	}
	if string(value) != "shared by all" || !slices.Equal(shared, vec(at(5, 0), at(2, 1), at(3, 2))) || !view.Formed(a.v) {
		t.Error("an answer shares with an argument:", a)
	}
}

// P1 (rule 6): what stands in spare room is nobody's; nothing is kept from call to call.
func TestSpareRoomSaysNothing(t *testing.T) {
	for range 2 {
		for _, v := range append(formedViews(), someView(), handView()) {
			checkInterest(t, roomyView(v), set(to(2, 200)))
			checkReads(t, roomyView(v), 0, 3, 255)
			for _, n := range someNotes()[:7] {
				checkTake(t, roomyView(v), roomyNote(n))
			}
			checkWrite(t, roomyView(v), writing{1, 3, 0, roomyBytes([]byte("hi")), false})
			checkWrite(t, roomyView(v), writing{1, 3, 0, roomyBytes(nil), true})
		}
	}
}

// P1 (rule 4): nothing hangs on whether what holds nothing is nil or empty.
func TestNothingIsNothing(t *testing.T) {
	empty := api.View{Known: vec(), Zones: zones(), Held: row(), Bodies: bodies()}
	for _, v := range []api.View{{}, empty} {
		checkEach(t, v)
		for _, n := range []api.Note{{}, {Start: vec(), End: vec(), Blur: set(), Writes: row()}} {
			if after, e := checkTake(t, v, n); e != api.OK || !sameView(after, api.View{}) {
				t.Error(v, n, after, e)
			}
		}
		for _, value := range [][]byte{nil, {}} {
			for _, gone := range []bool{false, true} {
				after, n, e := checkWrite(t, v, writing{0, 3, 0, value, gone})
				if e != api.OK || len(n.Writes) != 1 || len(after.Bodies) != map[bool]int{false: 1, true: 0}[gone] {
					t.Error(v, after, n, e)
				}
			}
		}
	}
	behind := api.View{Known: vec(at(1, 0)), Zones: zones(api.Zone{Span: to(3, 5), Vector: vec()}, upTo(7, 7))}
	checkEach(t, behind)
	if sum, e := view.Sum(behind, set(to(0, 255))); len(sum) != 2 || e != api.OK {
		t.Error("nil and empty are one reach:", sum, e)
	}
}

// P1 (rule 1): lists as long as they like end soon.
func TestLongLists(t *testing.T) {
	many, long := make([]api.Span, 1<<20), make([]api.Stamp, 1<<20)
	wide, held, there := make([]api.Zone, 1<<20), make([]api.Write, 1<<20), make([]api.Body, 1<<20)
	for i := range many {
		many[i], long[i] = to(i, i+i%3-1), at(1, i)
		wide[i], held[i], there[i] = upTo(i, i, at(1+i%2, 0)), put(i, 1, 0), body(i, 1, 0, "")
	}
	for _, v := range []api.View{handView(), everyZone(4)} {
		want, _ := wordSum(v, set(to(1, 255)))
		if got, e := view.Sum(v, many); !slices.EqualFunc(got, want, sameNote) || e != api.OK {
			t.Error(len(got), e)
		}
		lacks, _ := wordLacks(v, set(to(1, 255)))
		if got, e := view.Lacks(v, many); !slices.Equal(got, lacks) || e != api.OK {
			t.Error(got, e)
		}
		if got := view.Since(v, many); !slices.Equal(got, wordSince(v, set(to(1, 255)))) {
			t.Error(got)
		}
		for _, n := range []api.Note{{Start: long, End: long}, {End: long}, {End: v.Known, Blur: many}, {End: full(1), Writes: held}} {
			if after, e := view.Take(v, n); e != api.ErrArg || !sameView(after, api.View{}) {
				t.Error(e)
			}
		}
	}
	five := vec(at(5, 0))
	for _, v := range []api.View{{Known: long}, {Known: five, Zones: wide}, {Known: five, Held: held}, {Known: five, Held: held[:256], Bodies: there, Room: 1 << 24}, {Known: long, Zones: wide, Held: held, Bodies: there, Room: 1 << 24}} {
		if view.Formed(v) {
			t.Error("long, and formed")
		}
		if _, e := view.Sum(v, many); e != api.ErrArg {
			t.Error(e)
		}
	}
	if !view.Formed(api.View{Known: long[:64], Held: held[:256], Bodies: there[:256]}) {
		t.Error("as long as may be, and not formed")
	}
	huge := bytes.Repeat([]byte("h"), 1<<26)
	if _, _, e := view.Write(handView(), 0, 3, 0, huge, false); e != api.ErrArg {
		t.Error(e)
	}
	if _, e := view.Body(handView(), api.Body{Object: 2, Stamp: at(1, 1), Value: huge}); e != api.ErrArg {
		t.Error(e)
	}
}
