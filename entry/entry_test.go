package entry_test

import (
	"bytes"
	"math"
	"slices"
	"testing"

	"telltale/api"
	"telltale/entry"
	"telltale/pack"
	"telltale/view"
	"telltale/wire"
)

// checkEntry: is it formed, and which bytes has it, as the document says; and are these read again?
func checkEntry(t *testing.T, x api.Entry) bool {
	t.Helper()
	want := wordFormed(x)
	if entry.Formed(x) != want {
		t.Fatal(x, "formed:", !want)
	}
	got, e := entry.Encode(x)
	if !want {
		if e != api.ErrArg || len(got) > 0 {
			t.Fatalf("%v isn't formed: encoded %x %d", x, got, e)
		}
		return false
	}
	if e != api.OK || !bytes.Equal(got, bytesOf(numbersOf(x)...)) {
		t.Fatalf("%v: encoded %x %d, not %x", x, got, e, bytesOf(numbersOf(x)...))
	}
	if again, e := entry.Decode(got); e != api.OK || !same(again, x) {
		t.Fatalf("%v: %x, decoded: %v %d", x, got, again, e)
	}
	return true
}

// checkDecode: what any bytes say, as the document says. Is it an entry?
func checkDecode(t *testing.T, b []byte) bool {
	t.Helper()
	want, is := wordDecode(b)
	got, e := entry.Decode(b)
	if !is {
		if e != api.ErrForm || !same(got, api.Entry{}) {
			t.Fatalf("%x: decoded %v %d, not ErrForm", b, got, e)
		}
		return false
	}
	if e != api.OK || !same(got, want) || !entry.Formed(got) {
		t.Fatalf("%x: decoded %v %d, not %v", b, got, e, want)
	}
	if again, e := entry.Encode(got); e != api.OK || !bytes.Equal(again, b) {
		t.Fatalf("%x, decoded and encoded: %x %d", b, again, e)
	}
	return true
}

// checkSpoilt: an entry's bytes, ended too early anywhere, and each of them another one, left out or doubled.
func checkSpoilt(t *testing.T, b []byte) {
	t.Helper()
	for i := range b {
		if got, e := entry.Decode(b[:i]); e != api.ErrForm || !same(got, api.Entry{}) {
			t.Fatalf("%x, its first %d bytes: %v %d", b, i, got, e)
		}
	}
	step := 1 + len(b)/60
	for i := 0; i < len(b); i += step {
		for _, x := range []byte{0, 1, 2, 3, b[i] - 1, b[i] + 1, b[i] ^ 0x80, 63, 64, 0x7f, 0x80, 0xff} {
			spoilt := slices.Clone(b)
			spoilt[i] = x
			checkDecode(t, spoilt)
			checkDecode(t, slices.Insert(slices.Clone(b), i, x))
			checkDecode(t, append(slices.Clone(b), x))
		}
		checkDecode(t, slices.Delete(slices.Clone(b), i, i+1))
		if b[i] < 128 {
			// The same number in more bytes than it needs (where it is one).
			long := slices.Insert(slices.Clone(b), i+1, 0)
			long[i] |= 0x80
			checkDecode(t, long)
			checkDecode(t, slices.Insert(long, i+1, 0x80))
		}
	}
}

// P14.1, P14.2: entries of each kind, with each field set and unset, and their bytes.
func TestEntries(t *testing.T) {
	list, good := someEntries(), 0
	seen := map[int]int{}
	for _, x := range list {
		if checkEntry(t, x) {
			good++
			seen[x.Kind]++
		}
	}
	if good < 150 || good > len(list)-300 || len(seen) != 5 {
		t.Error(good, "of", len(list), seen)
	}
	for kind, n := range seen {
		if n < 20 {
			t.Error("kind", kind, n)
		}
	}
}

// P14.1, P14.2: the bytes of entries, ended too early, changed and with others behind.
func TestSpoiltBytes(t *testing.T) {
	for i, x := range formedEntries() {
		b := bytesOf(numbersOf(x)...)
		if len(b) < 200 || i%9 == 0 && len(b) < 2000 {
			checkSpoilt(t, b)
		}
	}
	for _, x := range entries() {
		checkSpoilt(t, bytesOf(numbersOf(x)...))
	}
}

// P14.1, P14.2: the numbers of what isn't formed, as bytes: they are no entry's.
func TestBytesOfWhatIsNotFormed(t *testing.T) {
	for _, x := range someEntries() {
		checkDecode(t, bytesOf(numbersOf(x)...))
	}
	for _, v := range append(wrongViews(), someViews()...) {
		checkDecode(t, bytesOf(numbersOf(api.Entry{Kind: 5, View: v})...))
		for _, l := range append(wrongSubs(), restingSubs()...) {
			checkDecode(t, bytesOf(numbersOf(api.Entry{Kind: 5, View: v, Subs: l})...))
		}
	}
}

// P14.1: Formed of entries with any number of fields set at once.
func TestFormedOfAnyEntry(t *testing.T) {
	one := put(7, 1, 0)
	seen, all := map[int]int{}, 0
	for kind := -1; kind <= 6; kind++ {
		for _, n := range []api.Note{{}, {Start: vec(at(1, 0))}, {End: vec(at(1, 0))}, {Blur: set(to(0, 0))}, {Writes: row(one)}, {End: vec(at(1, 0)), Writes: row(one)}, {End: vec(at(1, 0)), Writes: row(gone(7, 1, 0))}} {
			for _, y := range []api.Body{{}, {Object: 7}, {Object: 256}, {Stamp: at(1, 0)}, {Stamp: at(0, 1)}, {Value: []byte{0}}, body(7, 1, 0, ""), body(7, 1, 0, "x"), body(8, 1, 0, ""), body(7, 2, 0, ""), body(7, 1, 1, "")} {
				for _, from := range []int{0, 1, 63, 64, -1} {
					for _, interest := range [][]api.Span{nil, set(to(0, 255)), set(to(5, 4))} {
						for _, v := range []api.View{{}, {Room: 1}, {Known: vec(at(1, 0))}, {Zones: zones(upTo(0, 0))}, {Held: row(one)}, {Bodies: bodies(body(7, 1, 0, ""))}, {Known: vec(at(1, 0)), Held: row(one), Bodies: bodies(body(7, 1, 0, ""))}} {
							for _, l := range [][]api.Sub{nil, subs(of(2, to(0, 0))), subs(of(2))} {
								all++
								x := api.Entry{Kind: kind, Note: n, Body: y, From: from, Interest: interest, View: v, Subs: l}
								want := wordFormed(x)
								if entry.Formed(x) != want {
									t.Fatal(x, "formed:", !want)
								}
								if want {
									seen[kind]++
									checkEntry(t, x)
								} else if all%7 == 0 {
									checkEntry(t, x)
								}
							}
						}
					}
				}
			}
		}
	}
	if len(seen) != 5 {
		t.Error(seen, all)
	}
}

// forAll: all lists of so many bytes from a pool, each in one memory that is written over by the next.
func forAll(size int, pool []byte, see func(b []byte)) {
	b := make([]byte, size)
	var fill func(i int)
	fill = func(i int) {
		if i == size {
			see(b)
			return
		}
		for _, x := range pool {
			b[i] = x
			fill(i + 1)
		}
	}
	fill(0)
}

// P14.1, P14.2: all short lists of small bytes, and of bytes at the edges.
func TestAllShortBytes(t *testing.T) {
	things := 0
	see := func(b []byte) {
		if checkDecode(t, b) {
			things++
		}
	}
	for size := range 9 {
		forAll(size, []byte{0, 1, 2, 4, 5}, see)
	}
	for size := range 7 {
		forAll(size, []byte{0, 1, 4, 5, 63, 64, 0x80, 0xff}, see)
	}
	for x := range 256 {
		for y := range 256 {
			see([]byte{byte(x), byte(y)})
			see([]byte{4, byte(x), 1, byte(y), byte(y)})
			see([]byte{5, 0, 0, 0, 0, byte(x), byte(y)})
			see([]byte{2, byte(x), 0, byte(y), 0})
		}
	}
	if things < 300 {
		t.Error(things)
	}
}

// P14.1, P14.2: longer lists of small bytes behind the first ones of each kind.
func TestAllBytesOfKinds(t *testing.T) {
	things := 0
	for _, ahead := range [][]byte{
		{1, 0, 1, 0}, {1, 0, 1, 0, 2, 0}, {2, 7, 0}, {3, 0, 1, 0, 1, 0}, {3, 0, 1, 0, 1, 0, 1, 2, 0, 1}, {3, 0, 1, 0, 1, 0, 1, 2, 0, 1, 0, 2}, {4, 63}, {4, 0, 2},
		{5, 1, 0}, {5, 1, 0, 2}, {5, 1, 0, 2, 1}, {5, 1, 0, 2, 0, 1}, {5, 1, 0, 2, 0, 1, 2, 0, 1}, {5, 1, 0, 2, 0, 1, 2, 0, 2, 0}, {5, 0, 0, 0, 0}, {5, 0, 0, 0, 0, 0, 2},
	} {
		for size := range 9 {
			forAll(size, []byte{0, 1, 2}, func(b []byte) {
				if checkDecode(t, slices.Concat(ahead, b)) {
					things++
				}
			})
		}
	}
	if things < 500 {
		t.Error(things)
	}
}

// P14.1: how many things there are said to be: more than can be, and more than there are.
func TestHowMany(t *testing.T) {
	places := [][]byte{
		{1}, {1, 0}, {1, 0, 0}, {1, 0, 0, 0}, {2, 7, 0, 1}, {3, 0, 1, 0, 1, 0}, {3, 0, 1, 0, 1, 0, 1, 7, 0, 1, 0, 7, 0, 1},
		{4, 0}, {5}, {5, 0}, {5, 0, 0}, {5, 0, 0, 0}, {5, 0, 0, 0, 0, 0}, {5, 1, 0, 1, 1, 0, 0}, {5, 0, 0, 0, 0, 0, 1, 0},
	}
	for _, ahead := range places {
		for _, n := range []int{1, 2, 16, 17, 64, 65, 128, 129, 256, 257, 1 << 20, 1 << 40, math.MaxInt} {
			many := slices.Concat(ahead, bytesOf(n))
			checkDecode(t, many)
			for _, size := range []int{1, 30, 2000} {
				checkDecode(t, append(slices.Clone(many), make([]byte, size)...))
				checkDecode(t, append(slices.Clone(many), bytes.Repeat([]byte{1}, size)...))
			}
		}
	}
}

// P14.1, P14.2: lists of as many things as can be, and of one more.
func TestAsManyAsCanBe(t *testing.T) {
	x := greatest()
	if !checkEntry(t, x) {
		t.Fatal("the greatest checkpoint isn't formed")
	}
	b := bytesOf(numbersOf(x)...)
	if len(b) > api.MaxFrame {
		t.Error(len(b), "bytes are in no frame")
	}
	for i := 0; i < len(b); i += 997 {
		checkDecode(t, b[:i])
		checkDecode(t, slices.Delete(slices.Clone(b), i, i+1))
	}
	checkDecode(t, append(b, 0))
	for _, change := range []func(x *api.Entry){
		func(x *api.Entry) { x.View.Known = append(x.View.Known, at(1, 64)) },
		func(x *api.Entry) { x.View.Zones = append(x.View.Zones, upTo(256, 256)) },
		func(x *api.Entry) { x.View.Zones[255].Vector = append(x.View.Zones[255].Vector, at(1, 64)) },
		func(x *api.Entry) { x.View.Held = append(x.View.Held, put(256, 1, 0)) },
		func(x *api.Entry) { x.View.Bodies = append(x.View.Bodies, body(256, 1, 0, "")) },
		func(x *api.Entry) { x.View.Bodies[9].Value = append(x.View.Bodies[9].Value, 7); x.View.Room++ },
		func(x *api.Entry) { x.View.Room-- },
		func(x *api.Entry) { x.Subs = append(x.Subs, of(64, to(0, 0))) },
		func(x *api.Entry) { x.Subs = manySubs(47, 17) },
		func(x *api.Entry) { x.Subs[0].Interest = append(evens(), to(256, 256)) },
	} {
		x := greatest()
		change(&x)
		if checkEntry(t, x) {
			t.Error("one more, and formed")
		}
		if checkDecode(t, bytesOf(numbersOf(x)...)) {
			t.Error("one more, and decoded")
		}
	}
	noted := api.Entry{Kind: 1, Note: great()}
	if !checkEntry(t, noted) || !checkDecode(t, bytesOf(numbersOf(noted)...)) {
		t.Error("a note of all objects")
	}
}

// P14.2: what layers 5 and 6 lay is what stands in an entry's bytes.
func TestPartsAreThoseOfLayers(t *testing.T) {
	n, x := own(put(21, 600, 0)), body(21, 600, 0, "own")
	noteBytes, _ := wire.AppendNote(nil, n)
	bodyBytes, _ := wire.AppendBody(nil, x)
	known, _ := wire.AppendVector(nil, full(1))
	interest, _ := wire.AppendSet(nil, evens())
	room, _ := pack.AppendNumber(nil, 1<<24)
	for _, c := range []struct {
		x api.Entry
		b []byte
	}{
		{api.Entry{Kind: 1, Note: n}, slices.Concat([]byte{1}, noteBytes)},
		{api.Entry{Kind: 2, Body: x}, slices.Concat([]byte{2}, bodyBytes)},
		{api.Entry{Kind: 3, Note: n, Body: x}, slices.Concat([]byte{3}, noteBytes, bodyBytes)},
		{api.Entry{Kind: 4, From: 63, Interest: evens()}, slices.Concat([]byte{4, 63}, interest)},
		{api.Entry{Kind: 5, View: api.View{Known: full(1), Room: 1 << 24}, Subs: subs(of(9, evens()...))}, slices.Concat([]byte{5}, known, []byte{0, 0, 0}, room, []byte{1, 9}, interest)},
	} {
		if got, e := entry.Encode(c.x); e != api.OK || !bytes.Equal(got, c.b) {
			t.Errorf("%v: %x %d", c.x, got, e)
		}
		if got, e := entry.Decode(c.b); e != api.OK || !same(got, c.x) {
			t.Errorf("%x: %v %d", c.b, got, e)
		}
	}
}

// P14.1, P14.2: entries and their bytes, told by hand.
func TestBytesByHand(t *testing.T) {
	one := vec(at(1, 0))
	v := api.View{Known: vec(at(300, 0), at(2, 5)), Zones: zones(upTo(3, 4), upTo(200, 255, at(1, 5))), Held: row(put(1, 300, 0), gone(255, 1, 5)), Bodies: bodies(body(1, 300, 0, "hi")), Room: 99}
	for _, c := range []struct {
		why string
		x   api.Entry
		b   []byte
	}{
		{"a note that says nothing", api.Entry{Kind: 1}, []byte{1, 0, 0, 0, 0}},
		{"a note", api.Entry{Kind: 1, Note: api.Note{Start: one, End: vec(at(2, 0)), Blur: set(to(1, 3)), Writes: row(gone(7, 2, 0))}}, []byte{1, 1, 0, 1, 1, 0, 2, 1, 1, 3, 1, 7, 0, 2, 1}},
		{"a body", api.Entry{Kind: 2, Body: body(255, 1, 63, "a")}, []byte{2, 255, 1, 63, 1, 1, 'a'}},
		{"a body without a byte", api.Entry{Kind: 2, Body: body(0, 128, 0, "")}, []byte{2, 0, 0, 128, 1, 0}},
		{"a write", api.Entry{Kind: 3, Note: api.Note{End: one, Writes: row(put(7, 1, 0))}, Body: body(7, 1, 0, "hi")}, []byte{3, 0, 1, 0, 1, 0, 1, 7, 0, 1, 0, 7, 0, 1, 2, 'h', 'i'}},
		{"a write of nothing", api.Entry{Kind: 3, Note: api.Note{End: one, Writes: row(put(7, 1, 0))}, Body: body(7, 1, 0, "")}, []byte{3, 0, 1, 0, 1, 0, 1, 7, 0, 1, 0, 7, 0, 1, 0}},
		{"a deletion", api.Entry{Kind: 3, Note: api.Note{End: one, Writes: row(gone(7, 1, 0))}}, []byte{3, 0, 1, 0, 1, 0, 1, 7, 0, 1, 1}},
		{"a subscription", api.Entry{Kind: 4, From: 2, Interest: set(to(1, 3))}, []byte{4, 2, 1, 1, 3}},
		{"the end of one", api.Entry{Kind: 4, From: 63}, []byte{4, 63, 0}},
		{"a checkpoint of nothing", api.Entry{Kind: 5}, []byte{5, 0, 0, 0, 0, 0, 0}},
		{"a checkpoint", api.Entry{Kind: 5, View: v, Subs: subs(of(2, to(1, 3)), of(63, to(0, 0), to(255, 255)))},
			[]byte{5, 2, 0, 172, 2, 5, 2, 2, 3, 4, 0, 200, 1, 255, 1, 1, 5, 1, 2, 1, 0, 172, 2, 0, 255, 1, 5, 1, 1, 1, 1, 0, 172, 2, 2, 'h', 'i', 99, 2, 2, 1, 1, 3, 63, 2, 0, 0, 255, 1, 255, 1}},
	} {
		if got, e := entry.Encode(c.x); e != api.OK || !bytes.Equal(got, c.b) || !entry.Formed(c.x) {
			t.Errorf("%s: %v: %v %d", c.why, c.x, got, e)
		}
		if got, e := entry.Decode(c.b); e != api.OK || !same(got, c.x) {
			t.Errorf("%s: %v: %v %d", c.why, c.b, got, e)
		}
		for _, kind := range []int{0, 6, 7, 127} {
			x, b := c.x, slices.Clone(c.b)
			x.Kind, b[0] = kind, byte(kind)
			if got, e := entry.Encode(x); e != api.ErrArg || len(got) > 0 || entry.Formed(x) {
				t.Errorf("%s, of kind %d: %v %d", c.why, kind, got, e)
			}
			if got, e := entry.Decode(b); e != api.ErrForm || !same(got, api.Entry{}) {
				t.Errorf("%s, of kind %d: %v %d", c.why, kind, got, e)
			}
		}
	}
}

// P14.1: bytes that are no entry's, told by hand.
func TestNoEntriesByHand(t *testing.T) {
	for _, c := range []struct {
		why string
		b   []byte
	}{
		{"nothing", nil}, {"no byte", []byte{}}, {"a kind alone", []byte{1}}, {"a kind that isn't there", []byte{0}}, {"another one", []byte{6, 0, 0, 0, 0}}, {"a kind of two bytes", []byte{0x84, 0, 2, 0}},
		{"a write of no write", []byte{3, 0, 0, 0, 0}}, {"a write of no write, with a body", []byte{3, 0, 1, 0, 1, 0, 0, 7, 0, 1, 0}},
		{"a write of two", []byte{3, 0, 1, 0, 2, 0, 2, 7, 0, 1, 0, 8, 0, 2, 0, 7, 0, 1, 0}}, {"a write of two that are gone", []byte{3, 0, 1, 0, 2, 0, 2, 7, 0, 1, 1, 8, 0, 2, 1}},
		{"a write without a body", []byte{3, 0, 1, 0, 1, 0, 1, 7, 0, 1, 0}}, {"a deletion with a body", []byte{3, 0, 1, 0, 1, 0, 1, 7, 0, 1, 1, 7, 0, 1, 0}},
		{"a deletion with the zero body", []byte{3, 0, 1, 0, 1, 0, 1, 7, 0, 1, 1, 0, 0, 0, 0}},
		{"a body of another object", []byte{3, 0, 1, 0, 1, 0, 1, 7, 0, 1, 0, 8, 0, 1, 0}}, {"a body of another count", []byte{3, 0, 1, 0, 2, 0, 1, 7, 0, 1, 0, 7, 0, 2, 0}},
		{"a body of another node", []byte{3, 0, 1, 0, 1, 0, 1, 7, 0, 1, 0, 7, 1, 1, 0}}, {"Gone is 2", []byte{3, 0, 1, 0, 1, 0, 1, 7, 0, 1, 2, 7, 0, 1, 0}},
		{"from node 64", []byte{4, 64, 1, 1, 3}}, {"no set", []byte{4, 2, 1, 3, 1}}, {"spans side by side", []byte{4, 2, 2, 1, 2, 3, 4}}, {"one byte more", []byte{4, 2, 1, 1, 3, 0}}, {"one byte less", []byte{4, 2, 1, 1}},
		{"one of another kind behind", []byte{4, 2, 0, 4, 2, 0}}, {"From in two bytes", []byte{4, 0x82, 0, 0}},
		{"held, but not known", []byte{5, 0, 0, 1, 7, 0, 1, 0, 0, 0, 0}}, {"held, and Gone is 2", []byte{5, 1, 0, 1, 0, 1, 7, 0, 1, 2, 0, 0, 0}}, {"a body without room", []byte{5, 1, 0, 1, 0, 1, 7, 0, 1, 0, 1, 7, 0, 1, 1, 'x', 0, 0}},
		{"a zone up to what is known", []byte{5, 1, 0, 1, 1, 7, 7, 1, 0, 1, 0, 0, 0, 0}}, {"too much room", []byte{5, 0, 0, 0, 0, 0x81, 0x80, 0x80, 8, 0}},
		{"a subscription to nothing", []byte{5, 0, 0, 0, 0, 0, 1, 2, 0}}, {"from a node twice", []byte{5, 0, 0, 0, 0, 0, 2, 2, 1, 1, 3, 2, 1, 1, 3}}, {"by falling nodes", []byte{5, 0, 0, 0, 0, 0, 2, 2, 1, 1, 3, 1, 1, 1, 3}},
		{"a subscription from node 64", []byte{5, 0, 0, 0, 0, 0, 1, 64, 1, 1, 3}}, {"without its subscriptions", []byte{5, 0, 0, 0, 0, 0}},
		{"a greater number than there is", append(bytes.Repeat([]byte{0xff}, 9), 1)},
	} {
		if got, e := entry.Decode(c.b); e != api.ErrForm || !same(got, api.Entry{}) {
			t.Errorf("%s: %v: %v %d", c.why, c.b, got, e)
		}
		checkDecode(t, c.b)
	}
	for _, b := range [][]byte{{5, 1, 0, 1, 0, 1, 7, 0, 1, 0, 1, 7, 0, 1, 1, 'x', 1, 0}, {5, 0, 0, 0, 0, 0x80, 0x80, 0x80, 8, 0}, {5, 0, 0, 0, 0, 0, 2, 1, 1, 1, 3, 2, 1, 1, 3}, {5, 1, 0, 1, 1, 7, 7, 0, 0, 0, 0, 0}} {
		if !checkDecode(t, b) {
			t.Errorf("%v: these are an entry's", b)
		}
	}
}

// P14.1, P14.2: checkpoints of all views and subscriptions, right and wrong.
func TestCheckpoints(t *testing.T) {
	for _, v := range append(someViews(), wrongViews()...) {
		for _, l := range append(restingSubs(), wrongSubs()...) {
			x := api.Entry{Kind: 5, View: v, Subs: l}
			if got, want := checkEntry(t, x), view.Formed(v) && wordRest(l); got != want {
				t.Fatal(x, "formed:", got)
			}
		}
	}
}
