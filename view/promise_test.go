package view_test

import (
	"bytes"
	"math/rand"
	"slices"
	"strconv"
	"testing"

	"telltale/api"
	"telltale/note"
	"telltale/view"
)

// P13.1, P13.3: the document's examples.
func TestExamples(t *testing.T) {
	v, e := view.New(9)
	if e != api.OK {
		t.Fatal(e)
	}
	v, n, e := view.Write(v, 0, 3, 0, []byte("hi"), false)
	if e != api.OK || !sameNote(n, api.Note{End: vec(at(1, 0)), Writes: row(put(3, 1, 0))}) {
		t.Fatal(n, e)
	}
	if value, w, e := view.Read(v, 3); string(value) != "hi" || w != put(3, 1, 0) || e != api.OK {
		t.Error(value, w, e)
	}
	v, e = view.Take(v, api.Note{Start: vec(at(1, 0)), End: vec(at(1, 0), at(5, 1)), Blur: set(to(3, 3))})
	if e != api.OK {
		t.Fatal(e)
	}
	if value, w, e := view.Read(v, 3); len(value) > 0 || w != (api.Write{}) || e != api.ErrImprecise {
		t.Error(value, w, e)
	}
	if value, w, e := view.Read(v, 4); len(value) > 0 || w != (api.Write{}) || e != api.ErrNotFound {
		t.Error(value, w, e)
	}
	v, n, e = view.Write(v, 0, 4, 0, []byte("no"), false)
	if want := (api.Note{Start: vec(at(1, 0), at(5, 1)), End: vec(at(6, 0), at(5, 1)), Writes: row(put(4, 6, 0))}); e != api.OK || !sameNote(n, want) {
		t.Fatal(n, e)
	}
	if want := (api.View{Known: vec(at(6, 0), at(5, 1)), Zones: zones(upTo(3, 3, at(6, 0))), Held: row(put(3, 1, 0), put(4, 6, 0)), Bodies: bodies(body(3, 1, 0, "hi"), body(4, 6, 0, "no")), Room: 9}); !sameView(v, want) {
		t.Error(v)
	}
}

// known: a view that knows up to a vector, all sharp, of that room, with bodies and the writes that these are of.
func known(room int, v []api.Stamp, list ...api.Body) api.View {
	out := api.View{Known: v, Bodies: list, Room: room}
	for _, x := range list {
		out.Held = append(out.Held, api.Write{Stamp: x.Stamp, Object: x.Object})
	}
	slices.SortFunc(out.Held, func(a, b api.Write) int { return a.Object - b.Object })
	return out
}

// P13.1: notes that are taken, told by hand.
func TestTakeByHand(t *testing.T) {
	five := vec(at(5, 0))
	abc := body(3, 2, 0, "abc")
	v := known(9, five, abc)
	blur := v
	blur.Known, blur.Zones = vec(at(5, 0), at(1, 1)), zones(upTo(3, 3, at(5, 0)))
	up := func(held []api.Write, list ...api.Body) api.View {
		return api.View{Known: vec(at(6, 0)), Held: held, Bodies: list, Room: 9}
	}
	six := func(blur []api.Span, list ...api.Write) api.Note {
		return api.Note{Start: five, End: vec(at(6, 0)), Blur: blur, Writes: list}
	}
	for _, c := range []struct {
		why  string
		v    api.View
		n    api.Note
		want api.View
		e    api.Errno
	}{
		{"nothing", v, api.Note{}, v, api.OK},
		{"nothing told", v, six(nil), up(v.Held, abc), api.OK},
		{"another object", v, six(nil, put(4, 6, 0)), up(row(put(3, 2, 0), put(4, 6, 0)), abc), api.OK},
		{"a newer write: the body goes", v, six(nil, put(3, 6, 0)), up(row(put(3, 6, 0))), api.OK},
		{"it was deleted: the body goes", v, six(nil, gone(3, 6, 0)), up(row(gone(3, 6, 0))), api.OK},
		{"a write that was there: the body stays", v, six(nil, put(3, 2, 0)), up(v.Held, abc), api.OK},
		{"the same stamp, gone: what was there stays", v, six(nil, gone(3, 2, 0)), up(v.Held, abc), api.OK},
		{"an older write: what was there stays", v, six(nil, put(3, 1, 0)), up(v.Held, abc), api.OK},
		{"a newer one that was known of: it is put in", v, six(nil, put(3, 4, 0)), up(row(put(3, 4, 0))), api.OK},
		{"blurred", v, six(set(to(3, 3))), api.View{Known: vec(at(6, 0)), Zones: zones(upTo(3, 3, at(5, 0))), Held: v.Held, Bodies: bodies(abc), Room: 9}, api.OK},
		{"a blurred one, sharp again", blur, api.Note{End: vec(at(5, 0), at(1, 1)), Writes: row(gone(3, 1, 1))}, api.View{Known: blur.Known, Held: v.Held, Bodies: bodies(abc), Room: 9}, api.OK},
		{"a blurred one, sharp again, and written", blur, api.Note{End: vec(at(5, 0), at(1, 1)), Writes: row(put(3, 3, 0))}, api.View{Known: blur.Known, Held: row(put(3, 3, 0)), Room: 9}, api.OK},
		{"a write that hangs in the air", blur, api.Note{Start: blur.Known, End: vec(at(5, 0), at(7, 1)), Writes: row(put(3, 7, 1))}, api.View{Known: vec(at(5, 0), at(7, 1)), Zones: blur.Zones, Held: v.Held, Bodies: bodies(abc), Room: 9}, api.OK},
		{"a write beside it that doesn't", blur, api.Note{Start: blur.Known, End: vec(at(5, 0), at(7, 1)), Writes: row(put(3, 7, 1), gone(4, 7, 1))}, api.View{Known: vec(at(5, 0), at(7, 1)), Zones: blur.Zones, Held: row(put(3, 2, 0), gone(4, 7, 1)), Bodies: bodies(abc), Room: 9}, api.OK},
		{"a write of another node, to a blurred one", blur, api.Note{Start: blur.Known, End: vec(at(5, 0), at(1, 1), at(9, 2)), Writes: row(put(3, 9, 2))}, api.View{Known: vec(at(5, 0), at(1, 1), at(9, 2)), Zones: zones(upTo(3, 3, at(5, 0), at(9, 2))), Held: row(put(3, 9, 2)), Room: 9}, api.OK},
		{"a gap", v, api.Note{Start: vec(at(6, 0)), End: vec(at(6, 0))}, api.View{}, api.ErrGap},
		{"a gap of another node", v, api.Note{Start: vec(at(1, 63)), End: vec(at(1, 63))}, api.View{}, api.ErrGap},
		{"a gap, and not formed", v, api.Note{Start: vec(at(6, 0)), End: vec(at(5, 0))}, api.View{}, api.ErrArg},
		{"one stamp of two objects: the one body goes", known(9, five, body(4, 2, 0, "x"), abc), six(nil, put(4, 6, 0)), up(row(put(3, 2, 0), put(4, 6, 0)), abc), api.OK},
		{"the order of those that stay", known(9, five, abc, body(9, 1, 0, "x"), body(1, 5, 0, "y"), body(7, 4, 0, "")), six(nil, put(9, 6, 0)), up(row(put(1, 5, 0), put(3, 2, 0), put(7, 4, 0), put(9, 6, 0)), abc, body(1, 5, 0, "y"), body(7, 4, 0, "")), api.OK},
	} {
		got, e := view.Take(c.v, c.n)
		if e != c.e || !sameView(got, c.want) {
			t.Error(c.why, got, e)
		}
		checkTake(t, c.v, c.n)
	}
}

// P13.1: writes, told by hand.
func TestWriteByHand(t *testing.T) {
	behind := api.View{Known: vec(at(2, 0), at(4, 1)), Zones: zones(upTo(3, 5, at(1, 0), at(4, 1))), Held: row(put(3, 1, 0)), Bodies: bodies(body(3, 1, 0, "old")), Room: 5}
	full := behind
	full.Known = vec(at(api.MaxCount-2, 0), at(4, 1))
	for _, c := range []struct {
		why   string
		v     api.View
		x     writing
		stamp api.Stamp
		after api.View
		e     api.Errno
	}{
		{"what isn't known of the writer's own", behind, writing{0, 3, 0, []byte("x"), false}, api.Stamp{}, api.View{}, api.ErrStale},
		{"the same, without a byte", behind, writing{0, 4, 0, nil, false}, api.Stamp{}, api.View{}, api.ErrStale},
		{"the same, gone: it isn't held", behind, writing{0, 3, 0, nil, true}, at(5, 0), api.View{Known: vec(at(5, 0), at(4, 1)), Zones: behind.Zones, Held: behind.Held, Bodies: behind.Bodies, Room: 5}, api.OK},
		{"a writer that is known", behind, writing{1, 3, 0, []byte("new"), false}, at(5, 1), api.View{Known: vec(at(2, 0), at(5, 1)), Zones: zones(upTo(3, 5, at(1, 0), at(5, 1))), Held: row(put(3, 5, 1)), Bodies: bodies(body(3, 5, 1, "new")), Room: 5}, api.OK},
		{"a new writer, gone", behind, writing{63, 4, 0, nil, true}, at(5, 63), api.View{Known: vec(at(2, 0), at(4, 1), at(5, 63)), Zones: zones(upTo(3, 5, at(1, 0), at(4, 1), at(5, 63))), Held: row(put(3, 1, 0), gone(4, 5, 63)), Bodies: behind.Bodies, Room: 5}, api.OK},
		{"counts are skipped", behind, writing{0, 9, 3, []byte("nn"), false}, at(8, 0), api.View{Known: vec(at(8, 0), at(4, 1)), Zones: behind.Zones, Held: row(put(3, 1, 0), put(9, 8, 0)), Bodies: bodies(body(3, 1, 0, "old"), body(9, 8, 0, "nn")), Room: 5}, api.OK},
		{"the first body goes", behind, writing{0, 9, 0, []byte("nnn"), false}, at(5, 0), api.View{Known: vec(at(5, 0), at(4, 1)), Zones: behind.Zones, Held: row(put(3, 1, 0), put(9, 5, 0)), Bodies: bodies(body(9, 5, 0, "nnn")), Room: 5}, api.OK},
		{"more bytes than room", behind, writing{0, 9, 0, []byte("123456"), false}, at(5, 0), api.View{Known: vec(at(5, 0), at(4, 1)), Zones: behind.Zones, Held: row(put(3, 1, 0), put(9, 5, 0)), Room: 5}, api.OK},
		{"the last count", full, writing{2, 9, 1, nil, true}, at(api.MaxCount, 2), api.View{Known: vec(at(api.MaxCount-2, 0), at(4, 1), at(api.MaxCount, 2)), Zones: zones(upTo(3, 5, at(1, 0), at(4, 1), at(api.MaxCount, 2))), Held: row(put(3, 1, 0), gone(9, api.MaxCount, 2)), Bodies: behind.Bodies, Room: 5}, api.OK},
		{"behind the last count", full, writing{2, 9, 2, nil, true}, api.Stamp{}, api.View{}, api.ErrOverflow},
	} {
		got, n, e := view.Write(c.v, c.x.me, c.x.object, c.x.skip, c.x.value, c.x.gone)
		if e != c.e || !sameView(got, c.after) {
			t.Error(c.why, got, e)
		}
		if e == api.OK && !slices.Equal(n.Writes, row(api.Write{Stamp: c.stamp, Object: c.x.object, Gone: c.x.gone})) {
			t.Error(c.why, n)
		}
		checkWrite(t, c.v, c.x)
	}
}

// P13.1: bodies that come, told by hand.
func TestBodyByHand(t *testing.T) {
	v := known(5, vec(at(9, 0)), body(1, 1, 0, "abc"), body(2, 2, 0, "de"))
	v.Held = append(v.Held, gone(3, 3, 0), put(4, 4, 0))
	v.Zones = zones(upTo(4, 4, at(5, 0)))
	for _, c := range []struct {
		why  string
		x    api.Body
		want []api.Body
		e    api.Errno
	}{
		{"a body that is there comes last", body(1, 1, 0, "abc"), bodies(body(2, 2, 0, "de"), body(1, 1, 0, "abc")), api.OK},
		{"with another value, too", body(1, 1, 0, ""), bodies(body(2, 2, 0, "de"), body(1, 1, 0, "")), api.OK},
		{"of a blurred object: the first one goes", body(4, 4, 0, "f"), bodies(body(2, 2, 0, "de"), body(4, 4, 0, "f")), api.OK},
		{"without a byte", body(4, 4, 0, ""), bodies(body(1, 1, 0, "abc"), body(2, 2, 0, "de"), body(4, 4, 0, "")), api.OK},
		{"more bytes than room", body(4, 4, 0, "123456"), nil, api.OK},
		{"gone", body(3, 3, 0, ""), nil, api.ErrStale},
		{"not held", body(5, 1, 0, ""), nil, api.ErrStale},
		{"an older stamp", body(4, 3, 0, ""), nil, api.ErrStale},
		{"a newer stamp", body(4, 5, 0, ""), nil, api.ErrStale},
		{"another node's stamp", body(4, 4, 1, ""), nil, api.ErrStale},
		{"no object", body(256, 4, 0, ""), nil, api.ErrArg},
		{"no object", body(-1, 4, 0, ""), nil, api.ErrArg},
		{"no stamp, and none held", body(5, 0, 0, ""), nil, api.ErrArg},
		{"no stamp, and gone", body(3, 0, 0, ""), nil, api.ErrArg},
		{"a value that is too long", api.Body{Object: 4, Stamp: at(4, 0), Value: make([]byte, 257)}, nil, api.ErrArg},
		{"a value that is too long, and stale", api.Body{Object: 9, Stamp: at(4, 0), Value: make([]byte, 257)}, nil, api.ErrArg},
	} {
		want := v
		want.Bodies = c.want
		if c.e != api.OK {
			want = api.View{}
		}
		if got, e := view.Body(v, c.x); e != c.e || !sameView(got, want) {
			t.Error(c.why, got, e)
		}
		checkBody(t, v, c.x)
	}
}

// handView: sharp and blurred objects, of each kind one that has a body, one that lacks it, and one that is gone.
func handView() api.View {
	a, b := vec(at(5, 0), at(2, 1)), vec(at(5, 0))
	return api.View{
		Known:  vec(at(5, 0), at(7, 1)),
		Zones:  zones(upTo(3, 4, a...), upTo(5, 6, b...), upTo(8, 9, a...), upTo(10, 10)),
		Held:   row(put(1, 7, 1), put(2, 1, 1), put(3, 2, 1), gone(4, 5, 0), put(5, 5, 0), gone(7, 6, 1), put(9, 1, 1)),
		Bodies: bodies(body(9, 1, 1, "nine"), body(2, 1, 1, "two"), body(5, 5, 0, "")),
		Room:   7,
	}
}

// P13.1: what is read and served, told by hand.
func TestReadByHand(t *testing.T) {
	v := handView()
	for _, c := range []struct {
		o      int
		value  string
		w      api.Write
		e      api.Errno
		served api.Errno
	}{
		{0, "", api.Write{}, api.ErrNotFound, api.ErrNotFound},
		{1, "", put(1, 7, 1), api.ErrNoBody, api.ErrNoBody},
		{2, "two", put(2, 1, 1), api.OK, api.OK},
		{3, "", api.Write{}, api.ErrImprecise, api.ErrNoBody},
		{4, "", api.Write{}, api.ErrImprecise, api.ErrStale},
		{5, "", api.Write{}, api.ErrImprecise, api.OK},
		{6, "", api.Write{}, api.ErrImprecise, api.ErrNotFound},
		{7, "", gone(7, 6, 1), api.OK, api.ErrStale},
		{8, "", api.Write{}, api.ErrImprecise, api.ErrNotFound},
		{9, "", api.Write{}, api.ErrImprecise, api.OK},
		{10, "", api.Write{}, api.ErrImprecise, api.ErrNotFound},
		{11, "", api.Write{}, api.ErrNotFound, api.ErrNotFound},
		{255, "", api.Write{}, api.ErrNotFound, api.ErrNotFound},
		{256, "", api.Write{}, api.ErrArg, api.ErrArg},
		{-1, "", api.Write{}, api.ErrArg, api.ErrArg},
	} {
		if value, w, e := view.Read(v, c.o); string(value) != c.value || w != c.w || e != c.e {
			t.Error("read of", c.o, value, w, e)
		}
		x, e := view.Serve(v, c.o)
		want := api.Body{}
		for _, y := range v.Bodies {
			if y.Object == c.o {
				want = y
			}
		}
		if e != c.served || !sameBody(x, want) {
			t.Error("serve of", c.o, x, e)
		}
	}
}

// P13.1: what is told of interests, by hand.
func TestInterestsByHand(t *testing.T) {
	v := handView()
	a, b := vec(at(5, 0), at(2, 1)), vec(at(5, 0))
	for _, c := range []struct {
		interest []api.Span
		lacks    []int
		since    []api.Stamp
		sum      []api.Note
	}{
		{nil, nil, v.Known, []api.Note{{End: v.Known, Blur: set(to(0, 255))}}},
		{set(to(256, 300), to(9, 8)), nil, v.Known, []api.Note{{End: v.Known, Blur: set(to(0, 255))}}},
		{set(to(1, 2)), []int{1}, v.Known, []api.Note{{End: v.Known, Blur: set(to(0, 0), to(3, 255)), Writes: row(put(1, 7, 1), put(2, 1, 1))}}},
		{set(to(0, 255)), []int{1, 3}, nil, []api.Note{
			{End: v.Known, Blur: set(to(3, 6), to(8, 10)), Writes: row(put(1, 7, 1), put(2, 1, 1), gone(7, 6, 1))},
			{End: a, Blur: set(to(0, 2), to(5, 7), to(10, 255)), Writes: row(put(3, 2, 1), gone(4, 5, 0), put(9, 1, 1))},
			{End: b, Blur: set(to(0, 4), to(7, 255)), Writes: row(put(5, 5, 0))},
			{Blur: set(to(0, 9), to(11, 255))},
		}},
		{set(to(6, 8)), nil, b, []api.Note{
			{End: v.Known, Blur: set(to(0, 6), to(8, 255)), Writes: row(gone(7, 6, 1))},
			{End: b, Blur: set(to(0, 5), to(7, 255))},
			{End: a, Blur: set(to(0, 7), to(9, 255))},
		}},
		{set(to(9, 9), to(3, 3)), []int{3}, a, []api.Note{
			{End: v.Known, Blur: set(to(0, 255))},
			{End: a, Blur: set(to(0, 2), to(4, 8), to(10, 255)), Writes: row(put(3, 2, 1), put(9, 1, 1))},
		}},
		{set(to(10, 10), to(255, 255)), nil, nil, []api.Note{
			{End: v.Known, Blur: set(to(0, 254))},
			{Blur: set(to(0, 9), to(11, 255))},
		}},
	} {
		if got, e := view.Lacks(v, c.interest); !slices.Equal(got, c.lacks) || e != api.OK {
			t.Error(c.interest, "lacks", got, e)
		}
		if got := view.Since(v, c.interest); !slices.Equal(got, c.since) {
			t.Error(c.interest, "since", got)
		}
		if got, e := view.Sum(v, c.interest); !slices.EqualFunc(got, c.sum, sameNote) || e != api.OK {
			t.Error(c.interest, "sum", got, e)
		}
		checkInterest(t, v, c.interest)
	}
}

// record: of each object the newest of all writes that a view was told within the object's reach then.
type record [256]api.Write

// tell: a note was taken, and this view came of it.
func (r *record) tell(after api.View, n api.Note) {
	for _, w := range n.Writes {
		if has(wordReach(after, w.Object), w.Stamp) && newer(w.Stamp, r[w.Object].Stamp) {
			r[w.Object] = w
		}
	}
}

// check: does a view hold just that?
func (r *record) check(t *testing.T, v api.View) {
	t.Helper()
	for o, w := range r {
		if got, _ := heldOf(v, o); got != w {
			t.Fatal(v, "holds of", o, got, "was told:", w)
		}
	}
}

// P13.3: of all that any notes tell, true or not, the newest is held.
func TestNewestOfAnyNotes(t *testing.T) {
	c := chance{rand.New(rand.NewSource(33))}
	for range 60 {
		nodes := 1 + c.Intn(5)
		v, told := c.view(nodes), record{}
		for _, w := range v.Held {
			told[w.Object] = w
		}
		for range 40 {
			n := c.note(v, nodes)
			if after, e := view.Take(v, n); e == api.OK {
				v = after
				told.tell(v, n)
			}
			if c.Intn(4) == 0 {
				if after, n, e := view.Write(v, c.Intn(nodes), c.Intn(256), 0, nil, true); e == api.OK {
					v = after
					told.tell(v, n)
				}
			}
			told.check(t, v)
		}
	}
}

// teller: a node of a small world: its view, the notes that it can tell, and what it was told.
type teller struct {
	v    api.View
	log  []api.Note
	told record
}

// world: tellers that write, and tell one another what is true; all that was ever written.
type world struct {
	chance
	t       *testing.T
	tellers []*teller
	written []api.Write
	took    map[api.Errno]int
}

// objects: how many a world has.
const objects = 6

// text: the value of a write.
func text(s api.Stamp) string { return strconv.Itoa(s.Count) + "@" + strconv.Itoa(s.Node) }

// write: someone writes; no own write ever is stale.
func (w *world) write() {
	me := w.Intn(len(w.tellers))
	x, gone := w.tellers[me], w.Intn(5) == 0
	skip, o, greatest := w.Intn(2)*w.Intn(3), w.Intn(objects), vectorGreatest(x.v.Known)
	var value []byte
	if !gone {
		value = []byte(text(at(greatest+1+skip, me)))
	}
	after, n, e := view.Write(x.v, me, o, skip, value, gone)
	if e != api.OK || len(n.Writes) != 1 {
		w.t.Fatal(x.v, "write of", o, "by", me, n, e)
	}
	w.written = append(w.written, n.Writes[0])
	x.v, x.log = after, append(x.log, n)
	x.told.tell(after, n)
}

func vectorGreatest(v []api.Stamp) int {
	greatest := 0
	for _, s := range v {
		greatest = max(greatest, s.Count)
	}
	return greatest
}

// take: someone takes a note, as it is; what changes it can be told again.
func (w *world) take(x *teller, n api.Note) {
	after, e := view.Take(x.v, n)
	w.took[e]++
	switch {
	case e == api.ErrGap:
		return
	case e != api.OK:
		w.t.Fatal(x.v, "take of", n, e)
	}
	x.told.tell(after, n)
	if !sameView(after, x.v) {
		x.v, x.log = after, append(x.log, n)
	}
}

// tell: someone tells another one some notes of the log, from anywhere on, seen through an interest, some of them merged.
func (w *world) tell(from, to *teller) {
	if len(from.log) == 0 {
		return
	}
	interest := w.interest()
	first := w.Intn(len(from.log))
	for i := first; i < len(from.log) && i < first+1+w.Intn(8); i++ {
		n, e := note.Through(from.log[i], interest)
		if e == api.OK && i+1 < len(from.log) && w.Intn(3) == 0 {
			n, e = note.Merge(n, from.log[i+1])
			i++
		}
		if e != api.OK {
			w.t.Fatal(n, e)
		}
		w.take(to, n)
	}
}

// sum: someone tells another one all in few notes, of which the last ones may get lost.
func (w *world) sum(from, to *teller) {
	sum, e := view.Sum(from.v, w.interest())
	if e != api.OK {
		w.t.Fatal(from.v, e)
	}
	for _, n := range sum[:w.Intn(len(sum)+1)] {
		w.take(to, n)
	}
}

// interest: in some of the world's objects.
func (w *world) interest() []api.Span {
	if w.Intn(3) == 0 {
		return set(to(0, 255))
	}
	lo := w.Intn(objects)
	return set(to(lo, lo+w.Intn(objects)))
}

// fetch: someone has a body of another one.
func (w *world) fetch(from, to *teller) {
	x, e := view.Serve(from.v, w.Intn(objects))
	if e != api.OK {
		return
	}
	after, e := view.Body(to.v, x)
	w.took[e]++
	if e == api.OK {
		to.v = after
	} else if e != api.ErrStale {
		w.t.Fatal(to.v, x, e)
	}
}

// newestWithin: the newest write of an object that a vector has.
func (w *world) newestWithin(v []api.Stamp, o int) (api.Write, bool) {
	best, is := api.Write{}, false
	for _, x := range w.written {
		if x.Object == o && has(v, x.Stamp) && newer(x.Stamp, best.Stamp) {
			best, is = x, true
		}
	}
	return best, is
}

// check: is what someone reads the truth of what is known?
func (w *world) check(x *teller) {
	x.told.check(w.t, x.v)
	for o := range objects + 1 {
		if best, _ := w.newestWithin(wordReach(x.v, o), o); best != x.told[o] {
			w.t.Fatal(x.v, "within its reach", o, "has", best, "held:", x.told[o])
		}
		best, is := w.newestWithin(x.v.Known, o)
		value, read, e := view.Read(x.v, o)
		right := false
		switch e {
		case api.ErrImprecise:
			right = blurred(x.v, o) && read == api.Write{} && len(value) == 0
		case api.ErrNotFound:
			right = !is && read == api.Write{} && len(value) == 0
		case api.ErrNoBody:
			right = is && read == best && !best.Gone && len(value) == 0
		case api.OK:
			right = is && read == best && (best.Gone && len(value) == 0 || !best.Gone && bytes.Equal(value, []byte(text(best.Stamp))))
		}
		if !right {
			w.t.Fatal(x.v, "read of", o, value, read, e, "newest:", best, is)
		}
		w.took[e]++
		if b, e := view.Serve(x.v, o); e == api.OK && string(b.Value) != text(b.Stamp) {
			w.t.Fatal(x.v, "serve of", o, b)
		}
	}
}

// P13.3: who is told the truth, however blurred, late, twice, and with gaps, reads the newest write of all that is known, or says that it can't.
func TestNewest(t *testing.T) {
	w := world{chance: chance{rand.New(rand.NewSource(3))}, t: t, took: map[api.Errno]int{}}
	for range 60 {
		w.written, w.tellers = nil, nil
		for range 2 + w.Intn(3) {
			w.tellers = append(w.tellers, &teller{v: api.View{Room: w.Intn(40)}})
		}
		for range 150 {
			from, to := w.tellers[w.Intn(len(w.tellers))], w.tellers[w.Intn(len(w.tellers))]
			switch w.Intn(6) {
			case 0:
				w.write()
			case 1, 2, 3:
				w.tell(from, to)
			case 4:
				w.sum(from, to)
			case 5:
				w.fetch(from, to)
			}
			w.check(to)
		}
	}
	for _, e := range []api.Errno{api.OK, api.ErrGap, api.ErrStale, api.ErrImprecise, api.ErrNotFound, api.ErrNoBody} {
		if w.took[e] < 200 {
			t.Error(e, w.took[e])
		}
	}
}
