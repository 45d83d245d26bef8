package cache_test

import (
	"bytes"
	"math"
	"math/rand"
	"slices"
	"strings"
	"testing"

	"telltale/api"
	"telltale/cache"
	"telltale/wire"
)

func at(count, node int) api.Stamp { return api.Stamp{Count: count, Node: node} }

// body: a body of an object and a stamp.
func body(o, count, node int, value string) api.Body {
	return api.Body{Object: o, Stamp: at(count, node), Value: []byte(value)}
}

// sized: a body of so many bytes.
func sized(o, size int) api.Body {
	return body(o, 1+o+size, size%64, strings.Repeat("x", size))
}

func row(list ...api.Body) []api.Body { return list }

// copied: a list with a Value of its own in each body.
func copied(l []api.Body) []api.Body {
	out := slices.Clone(l)
	for i := range out {
		out[i].Value = slices.Clone(out[i].Value)
	}
	return out
}

// sameBody: do two bodies say the same?
func sameBody(a, b api.Body) bool {
	return a.Object == b.Object && a.Stamp == b.Stamp && bytes.Equal(a.Value, b.Value)
}

func same(a, b []api.Body) bool { return slices.EqualFunc(a, b, sameBody) }

// wordBody: what the document asks of a body.
func wordBody(x api.Body) bool {
	s := x.Stamp
	return x.Object >= 0 && x.Object <= 255 && s.Count >= 1 && s.Node >= 0 && s.Node <= 63 && len(x.Value) <= 256
}

// wordUsed: how many bytes a list has, one by one.
func wordUsed(l []api.Body) int {
	n := 0
	for _, x := range l {
		for range x.Value {
			n++
		}
	}
	return n
}

// wordFormed: what the chapter asks of bodies, of the room, of each one and of each two of them.
func wordFormed(l []api.Body, room int) bool {
	if room < 0 || room > 1<<24 {
		return false
	}
	for i, x := range l {
		if !wordBody(x) {
			return false
		}
		for _, before := range l[:i] {
			if before.Object == x.Object {
				return false
			}
		}
	}
	return wordUsed(l) <= room
}

// wordGet: the Value of the first body of an object and a stamp.
func wordGet(l []api.Body, o int, s api.Stamp) ([]byte, api.Errno) {
	i := slices.IndexFunc(l, func(x api.Body) bool { return x.Object == o && x.Stamp == s })
	if i < 0 {
		return nil, api.ErrNoBody
	}
	return l[i].Value, api.OK
}

// wordForget: the others than those of an object.
func wordForget(l []api.Body, o int) []api.Body {
	return slices.DeleteFunc(slices.Clone(l), func(x api.Body) bool { return x.Object == o })
}

// wordPut: told from behind: of the bodies with x as the last one as many last ones as there is room for, in a row.
func wordPut(l []api.Body, room int, x api.Body) ([]api.Body, api.Errno) {
	if !wordFormed(l, room) || !wordBody(x) {
		return nil, api.ErrArg
	}
	all := append(wordForget(l, x.Object), x)
	from, left := len(all), room
	for from > 0 && len(all[from-1].Value) <= left {
		from--
		left -= len(all[from].Value)
	}
	return all[from:], api.OK
}

// checkPut: a body that comes, against the document's words and the promises.
func checkPut(t *testing.T, l []api.Body, room int, x api.Body) []api.Body {
	t.Helper()
	want, wantE := wordPut(l, room, x)
	got, e := cache.Put(l, room, x)
	if !same(got, want) || e != wantE {
		t.Fatal(l, "room", room, "put of", x, ":", got, e, "asked for:", want, wantE)
	}
	if e != api.OK {
		return nil
	}
	if !cache.Formed(got, room) || !wordFormed(got, room) {
		t.Fatal(l, "room", room, "put of", x, "isn't formed:", got)
	}
	if cache.Used(got) > room {
		t.Fatal(l, "room", room, "put of", x, "has more than room:", got)
	}
	value, e := cache.Get(got, x.Object, x.Stamp)
	if fits := len(x.Value) <= room; fits != (e == api.OK) || fits && !bytes.Equal(value, x.Value) {
		t.Fatal(l, "room", room, "put of", x, "and then get:", value, e)
	}
	return got
}

// everyObject: a body of each object, all of so many bytes.
func everyObject(size int) []api.Body {
	var l []api.Body
	for i := range 256 {
		l = append(l, sized((i*7+100)%256, size))
	}
	return l
}

// formedLists: bodies that are formed beside any room that they have room in, up to their edges.
func formedLists() [][]api.Body {
	return [][]api.Body{
		nil, {},
		row(body(0, 1, 0, "")),
		row(body(0, 1, 0, "a")),
		row(body(255, api.MaxCount, 63, "a")),
		row(sized(0, 256)),
		row(sized(255, 255), sized(0, 256)),
		row(body(3, 5, 0, "abc"), body(2, 5, 0, "de"), body(1, 5, 0, "f")),
		row(body(1, 9, 0, ""), body(0, 8, 63, ""), body(2, 7, 1, "")),
		row(body(1, 9, 0, ""), body(0, 8, 63, "x"), body(2, 7, 1, "")),
		row(body(200, api.MaxCount, 0, "\x00"), body(0, 1, 63, "\xff\x00\xff"), body(127, 2, 2, "two\n"), body(128, 2, 2, "two\n"), body(254, 1, 0, "")),
		everyObject(0), everyObject(1), everyObject(256), everyObject(1)[:255], everyObject(3)[1:],
	}
}

// wrongBodies: bodies that aren't formed, in each of the ways that make them so.
func wrongBodies() []api.Body {
	list := []api.Body{{}, {Value: []byte("a")}, {Object: 3}, {Object: 3, Value: []byte("a")}}
	for _, o := range []int{-1, 256, 257, -256, 1 << 32, 1<<32 + 3, math.MinInt, math.MaxInt} {
		list = append(list, body(o, 5, 0, ""), body(o, 5, 0, "a"))
	}
	for _, s := range []api.Stamp{at(0, 0), at(-1, 0), at(math.MinInt, 0), at(0, 63), at(5, -1), at(5, 64), at(5, 65), at(5, math.MinInt), at(5, math.MaxInt), at(api.MaxCount, 64), at(math.MinInt, math.MaxInt)} {
		list = append(list, body(3, s.Count, s.Node, ""), body(0, s.Count, s.Node, "a"))
	}
	for _, size := range []int{257, 258, 511, 512, 513, 4096, 1 << 16, 1 << 20} {
		list = append(list, sized(3, size))
	}
	return append(list, body(-1, 0, 64, ""), body(256, -1, -1, strings.Repeat("x", 257)))
}

// wrong: a list that isn't formed in any room, and why.
type wrong struct {
	why string
	l   []api.Body
}

// wrongLists: lists that aren't formed, in each of the ways that make them so.
func wrongLists() []wrong {
	var list []wrong
	add := func(why string, l ...api.Body) { list = append(list, wrong{why, l}) }
	for _, x := range wrongBodies() {
		add("no formed body", x)
		add("no formed body, the last one", body(7, 5, 0, "a"), x)
		add("no formed body, the first one", x, body(255, 5, 0, "a"))
		add("no formed body, in the midst", body(255, 5, 0, ""), x, body(7, 5, 0, "abc"))
	}
	add("twice", body(5, 1, 0, "a"), body(5, 1, 0, "a"))
	add("twice, without bytes", body(5, 1, 0, ""), body(5, 1, 0, ""))
	add("twice, the newer one behind", body(5, 1, 0, "a"), body(5, 2, 0, "b"))
	add("twice, the newer one ahead", body(5, 2, 0, "a"), body(5, 1, 0, ""))
	add("twice the first object", body(0, 1, 0, "a"), body(0, 1, 1, "a"))
	add("twice the last object", body(254, 1, 0, "a"), body(255, 1, 0, "b"), body(255, 2, 1, "b"))
	add("twice, not beside one another", body(4, 1, 0, "a"), body(9, 1, 0, ""), body(4, 2, 0, "b"))
	add("twice, far from one another", append(everyObject(1), body(100, 1, 0, ""))...)
	add("a body more than there are objects", append(everyObject(0), body(256, 1, 0, ""))...)
	add("a body more than there are objects, ahead", append(row(body(-1, 1, 0, "")), everyObject(0)...)...)
	return list
}

// rightRooms, wrongRooms: rooms that may be, and that may not, at their edges.
func rightRooms() []int {
	return []int{0, 1, 2, 3, 5, 6, 255, 256, 257, 511, 512, 4096, 65535, 65536, 65537, 1<<24 - 1, 1 << 24}
}

func wrongRooms() []int {
	return []int{-1, -2, -256, math.MinInt, 1<<24 + 1, 1<<24 + 2, 1 << 25, 1 << 32, 1<<32 + 5, math.MaxInt}
}

// someBodies: formed bodies, to be put.
func someBodies() []api.Body {
	return []api.Body{
		body(0, 1, 0, ""), body(3, 5, 0, "a"), body(3, 4, 63, "bcd"), body(4, 5, 0, "abcdef"), body(255, api.MaxCount, 63, "a"), body(100, 101, 0, ""), body(17, 1, 1, "xyz"),
		sized(0, 256), sized(9, 255), sized(255, 1),
	}
}

// refused: do Formed and Put say that a list isn't formed beside a room, whatever is put?
func refused(t *testing.T, why string, l []api.Body, room int) {
	t.Helper()
	if cache.Formed(l, room) {
		t.Fatal(why, "room", room, "is formed:", l)
	}
	for _, x := range append(someBodies(), api.Body{}, sized(3, 257)) {
		if got, e := cache.Put(l, room, x); len(got) > 0 || e != api.ErrArg {
			t.Fatal(why, "room", room, l, "put of", x, got, e)
		}
	}
}

// P12.1: Formed, of what is formed, in just the rooms that there may be and that suffice.
func TestFormed(t *testing.T) {
	for _, l := range formedLists() {
		need := wordUsed(l)
		for _, room := range append(rightRooms(), need, need+1, need-1) {
			want := room >= need
			if wordFormed(l, room) != want {
				t.Fatal("the test's own words differ:", l, room)
			}
			if got := cache.Formed(l, room); got != want {
				t.Error("room", room, "formed:", got, l)
			}
			if !want {
				refused(t, "less room than bytes", l, room)
			}
		}
		for _, room := range wrongRooms() {
			refused(t, "no room may be so", l, room)
		}
	}
}

// P12.1: Formed and Put, of lists that aren't formed in each of the ways.
func TestNotFormed(t *testing.T) {
	for _, w := range wrongLists() {
		for _, room := range []int{0, 5, 257, 1 << 16, 1 << 22, 1 << 24, -1, 1<<24 + 1} {
			if wordFormed(w.l, room) {
				t.Fatal("the test's own words differ:", w.why, w.l)
			}
			refused(t, w.why, w.l, room)
		}
	}
}

// P12.1: what a body must be is what layer 6 takes as one.
func TestFormedBodyIsLayerSixes(t *testing.T) {
	for _, x := range slices.Concat(someBodies(), wrongBodies(), everyObject(0), everyObject(256), everyObject(257)) {
		_, e := wire.AppendBody(nil, x)
		if got := cache.Formed(row(x), 1<<24); got != (e == api.OK) {
			t.Error(x, got, e)
		}
		if _, put := cache.Put(nil, 1<<24, x); put != e {
			t.Error(x, put, e)
		}
	}
}

// P12.1: a body that isn't formed isn't put, into whatever is there.
func TestPutRefuses(t *testing.T) {
	for _, l := range formedLists() {
		for _, x := range wrongBodies() {
			for _, room := range []int{0, wordUsed(l), wordUsed(l) + 5, 1 << 20, 1 << 24} {
				if got, e := cache.Put(l, room, x); len(got) > 0 || e != api.ErrArg {
					t.Fatal(l, room, "put of", x, got, e)
				}
			}
		}
	}
}

// checkAny: the three calls that take any bodies.
func checkAny(t *testing.T, l []api.Body) {
	t.Helper()
	if got, want := cache.Used(l), wordUsed(l); got != want {
		t.Fatal(l, "used:", got, "asked for:", want)
	}
	objects, stamps := []int{-1, 0, 1, 3, 255, 256}, []api.Stamp{{}, at(1, 0), at(5, 64)}
	for _, x := range l[:min(len(l), 9)] {
		objects, stamps = append(objects, x.Object), append(stamps, x.Stamp, at(x.Stamp.Count, x.Stamp.Node+1), at(x.Stamp.Count+1, x.Stamp.Node))
	}
	for _, o := range objects {
		if got, want := cache.Forget(l, o), wordForget(l, o); !same(got, want) {
			t.Fatal(l, "forget of", o, got, "asked for:", want)
		}
		for _, s := range stamps {
			want, wantE := wordGet(l, o, s)
			if got, e := cache.Get(l, o, s); !bytes.Equal(got, want) || e != wantE || e != api.OK && len(got) > 0 {
				t.Fatal(l, "get of", o, s, got, e, "asked for:", want, wantE)
			}
		}
	}
}

// P12.1: Used, Get and Forget, of bodies formed and not.
func TestAnyBodies(t *testing.T) {
	for _, l := range formedLists() {
		checkAny(t, l)
	}
	for _, w := range wrongLists() {
		checkAny(t, w.l)
	}
	twice := row(body(3, 5, 0, "first"), body(4, 5, 0, "other"), body(3, 5, 0, "second"), body(3, 6, 0, "third"))
	if v, e := cache.Get(twice, 3, at(5, 0)); string(v) != "first" || e != api.OK {
		t.Error(string(v), e)
	}
	if v, e := cache.Get(twice, 3, at(6, 0)); string(v) != "third" || e != api.OK {
		t.Error(string(v), e)
	}
	if got := cache.Forget(twice, 3); !same(got, row(body(4, 5, 0, "other"))) {
		t.Error(got)
	}
	if got := cache.Forget(twice, 4); !same(got, row(twice[0], twice[2], twice[3])) {
		t.Error(got)
	}
}

// anyLists: all lists of up to so many bodies from a pool of right and wrong ones.
func anyLists(most int) [][]api.Body {
	var pool []api.Body
	for _, o := range []int{0, 1, 255} {
		pool = append(pool, body(o, 1, 0, ""), body(o, api.MaxCount, 63, "a"), body(o, 1, 0, "bc"), body(o, 2, 1, "defg"))
	}
	pool = append(pool, body(-1, 1, 0, ""), body(256, 1, 0, "a"), body(1, 0, 0, ""), body(1, 1, 64, ""), body(1, 1, -1, "a"), sized(0, 257))
	all := [][]api.Body{nil}
	for from := 0; len(all[from]) < most; from++ {
		for _, x := range pool {
			all = append(all, append(slices.Clone(all[from]), x))
		}
	}
	return all
}

// P12.1: any lists in any rooms, right or wrong in any number of ways at once.
func TestAnyLists(t *testing.T) {
	puts := anyLists(1)[1:]
	for i, l := range anyLists(3) {
		for _, room := range []int{0, 1, 2, 3, 4, 5, 6, 8, 9, 12, 13, 256, -1, 1<<24 + 1} {
			if got, want := cache.Formed(l, room), wordFormed(l, room); got != want {
				t.Fatal("room", room, l, "formed:", got)
			}
			for _, x := range puts {
				checkPut(t, l, room, x[0])
			}
		}
		if i < 1000 {
			checkAny(t, l)
		}
	}
}

// lastOfEach: of some bodies the last one of each object, in the order in which these came.
func lastOfEach(came []api.Body) []api.Body {
	var out []api.Body
	for i, x := range came {
		if !slices.ContainsFunc(came[i+1:], func(y api.Body) bool { return y.Object == x.Object }) {
			out = append(out, x)
		}
	}
	return out
}

// checkRoom: what must hold behind puts into an empty cache, whatever they were.
func checkRoom(t *testing.T, came, l []api.Body, room int) {
	t.Helper()
	if wordUsed(l) > room || cache.Used(l) > room {
		t.Fatal(came, "room", room, "more bytes than room:", l)
	}
	last := came[len(came)-1]
	if there := len(l) > 0 && sameBody(l[len(l)-1], last); there != (len(last.Value) <= room) {
		t.Fatal(came, "room", room, "the last one is there:", there, l)
	}
	each := lastOfEach(came)
	if len(l) > len(each) || !same(l, each[len(each)-len(l):]) {
		t.Fatal(came, "room", room, "aren't the last ones that came:", l)
	}
}

// rows: all rows of just so many bodies from a pool.
func rows(pool []api.Body, n int) [][]api.Body {
	if n == 0 {
		return [][]api.Body{nil}
	}
	var all [][]api.Body
	for _, r := range rows(pool, n-1) {
		for _, x := range pool {
			all = append(all, append(slices.Clone(r), x))
		}
	}
	return all
}

// P12.2: all rows of puts of a small world, in all rooms that tell them apart.
func TestRoom(t *testing.T) {
	var pool []api.Body
	for o := range 3 {
		for _, value := range []string{"", "a", "bc", "def"} {
			pool = append(pool, body(o, 1+len(value), o, value))
		}
	}
	for _, came := range rows(pool, 4) {
		for room := range 8 {
			var l []api.Body
			for i, x := range came {
				l = checkPut(t, l, room, x)
				checkRoom(t, came[:i+1], l, room)
			}
		}
	}
}

// P12.2: longer rows, of few objects and of all, of small values and of great ones, in any room; now and then an object is forgotten.
func TestRoomOfMany(t *testing.T) {
	c := rand.New(rand.NewSource(12))
	for range 300 {
		objects, sizes, room := 1+c.Intn(256), 1+c.Intn(257), c.Intn(1+c.Intn(20000))
		var came, l []api.Body
		for i := range 1 + c.Intn(400) {
			x := sized(c.Intn(objects), c.Intn(sizes))
			x.Stamp = at(1+c.Intn(5), i%64)
			came = append(came, x)
			l = checkPut(t, l, room, x)
			if i%20 == 0 {
				checkRoom(t, came, l, room)
			}
			if c.Intn(30) == 0 {
				o := c.Intn(objects)
				l, came = cache.Forget(l, o), wordForget(came, o)
			}
		}
	}
}

// P12.1, P12.2: the document's examples, and edges told by hand.
func TestExamples(t *testing.T) {
	abc, de, f := body(1, 1, 0, "abc"), body(2, 2, 0, "de"), body(3, 3, 0, "f")
	none4, none5, six := body(4, 4, 0, ""), body(5, 5, 0, ""), body(6, 6, 0, "abcdef")
	for _, c := range []struct {
		why        string
		room       int
		came, want []api.Body
	}{
		{"the document's", 5, row(abc, de, f), row(de, f)},
		{"the document's: six bytes", 5, row(six), nil},
		{"six bytes, and others ahead", 5, row(de, f, six), nil},
		{"six bytes, and one without ahead and behind", 5, row(none4, six, none5), row(none5)},
		{"six bytes of an object that was there", 5, row(de, body(2, 9, 0, "abcdef")), nil},
		{"just room", 6, row(abc, de, f), row(abc, de, f)},
		{"just room for one", 6, row(abc, de, six), row(six)},
		{"one byte too many", 5, row(abc, de, f, none4), row(de, f, none4)},
		{"no room, no bytes", 0, row(none4, none5), row(none4, none5)},
		{"no room, a byte", 0, row(none4, f), nil},
		{"no room, a byte, and none", 0, row(none4, f, none5), row(none5)},
		{"the first one goes, though it frees nothing", 5, row(none4, abc, de, f), row(de, f)},
		{"what stands behind the one that frees enough stays", 5, row(abc, none4, de, f), row(none4, de, f)},
		{"no more go than must", 5, row(none4, none5, abc, de), row(none4, none5, abc, de)},
		{"the same again comes last", 5, row(abc, none4, abc), row(none4, abc)},
		{"the same again, and then another", 5, row(abc, de, abc, f), row(abc, f)},
		{"what goes for its own object is room at once", 5, row(abc, de, body(1, 9, 0, "xyz")), row(de, body(1, 9, 0, "xyz"))},
		{"a greater one of its own object", 5, row(abc, de, body(1, 9, 0, "wxyz")), row(body(1, 9, 0, "wxyz"))},
		{"a lesser one of its own object", 5, row(abc, de, body(1, 9, 0, ""), f), row(de, body(1, 9, 0, ""), f)},
		{"an older stamp takes the place as well", 5, row(body(1, 9, 9, "abc"), body(1, 1, 0, "x")), row(body(1, 1, 0, "x"))},
		{"the same stamp with another value", 5, row(abc, body(1, 1, 0, "x")), row(body(1, 1, 0, "x"))},
		{"one stamp of two objects", 5, row(abc, body(7, 1, 0, "x")), row(abc, body(7, 1, 0, "x"))},
		{"what went doesn't come back", 5, row(abc, de, f, body(2, 9, 0, "")), row(f, body(2, 9, 0, ""))},
		{"the greatest value", 256, row(f, sized(0, 256)), row(sized(0, 256))},
		{"the greatest value, and a byte more", 257, row(f, sized(0, 256)), row(f, sized(0, 256))},
		{"a byte less than the greatest value", 255, row(f, sized(0, 256)), nil},
		{"the greatest room", 1 << 24, row(six, abc), row(six, abc)},
	} {
		var l []api.Body
		for _, x := range c.came {
			var e api.Errno
			if l, e = cache.Put(l, c.room, x); e != api.OK {
				t.Error(c.why, e)
			}
		}
		if !same(l, c.want) {
			t.Error(c.why, l)
		}
		if cache.Used(l) != wordUsed(c.want) || !cache.Formed(l, c.room) {
			t.Error(c.why, cache.Used(l))
		}
	}
	if v, e := cache.Get(row(abc, de), 1, at(1, 0)); string(v) != "abc" || e != api.OK {
		t.Error(v, e)
	}
	if v, e := cache.Get(row(abc, de), 1, at(2, 0)); len(v) > 0 || e != api.ErrNoBody {
		t.Error(v, e)
	}
	if v, e := cache.Get(row(none4), 4, at(4, 0)); len(v) > 0 || e != api.OK {
		t.Error(v, e)
	}
}

// P12.1, P12.2: all objects at once, of the greatest values.
func TestAllObjects(t *testing.T) {
	all := everyObject(256)
	for _, room := range []int{1<<16 - 1, 1 << 16, 1<<16 + 1, 1 << 24} {
		var l []api.Body
		for i, x := range all {
			l = checkPut(t, l, room, x)
			checkRoom(t, all[:i+1], l, room)
		}
		want := all
		if room < 1<<16 {
			want = all[1:]
		}
		if !same(l, want) {
			t.Error(room, len(l))
		}
		again := checkPut(t, l, room, want[5])
		if !same(again, append(slices.Delete(slices.Clone(want), 5, 6), want[5])) {
			t.Error(room, len(again))
		}
	}
	if got := checkPut(t, everyObject(1), 256, sized(0, 256)); !same(got, row(sized(0, 256))) {
		t.Error(got)
	}
	if got := checkPut(t, everyObject(1), 256, sized(0, 255)); len(got) != 2 {
		t.Error(got)
	}
}

// P1 (rule 1): lists as long as they like end soon.
func TestLongLists(t *testing.T) {
	many, value := make([]api.Body, 1<<20), []byte("abc")
	for i := range many {
		many[i] = api.Body{Object: i % 999, Stamp: at(i, 0), Value: value}
	}
	if got := cache.Used(many); got != 3<<20 {
		t.Error(got)
	}
	if v, e := cache.Get(many, (1<<20-1)%999, at(1<<20-1, 0)); string(v) != "abc" || e != api.OK {
		t.Error(v, e)
	}
	if v, e := cache.Get(many, 5, at(1<<20-1, 1)); len(v) > 0 || e != api.ErrNoBody {
		t.Error(v, e)
	}
	if got := cache.Forget(many, 5); !same(got, wordForget(many, 5)) {
		t.Error(len(got))
	}
	refused(t, "long", many, 1<<24)
	for i := range many {
		many[i] = api.Body{Object: i, Stamp: at(1, 0)}
	}
	refused(t, "long, each object once", many, 1<<24)
	huge := row(api.Body{Object: 3, Stamp: at(1, 0), Value: make([]byte, 1<<26)})
	if got := cache.Used(huge); got != 1<<26 {
		t.Error(got)
	}
	refused(t, "a value of many bytes", huge, 1<<24)
}

// roomy: bodies with spare room behind them and behind each Value, filled with what would be seen if it were changed.
func roomy(l []api.Body) []api.Body {
	out := append(copied(l), body(300, 0, 99, "spare"), body(-1, 5, 5, "spare"))[:len(l)]
	for i, x := range out {
		out[i].Value = append(x.Value, "spare"...)[:len(x.Value)]
	}
	return out
}

// whole: a copy of all that bodies hold, spare room too.
func whole(l []api.Body) []api.Body {
	out := slices.Clone(l[:cap(l)])
	for i, x := range out {
		out[i].Value = slices.Clone(x.Value[:cap(x.Value)])
	}
	return out
}

// scribble: all that bodies hold is written over, spare room too.
func scribble(l []api.Body) {
	for _, x := range l {
		scribbleBytes(x.Value)
	}
	for i := range l[:cap(l)] {
		l[:cap(l)][i] = body(-3, -3, -3, "---")
	}
}

func scribbleBytes(b []byte) {
	for i := range b[:cap(b)] {
		b[:cap(b)][i] = '-'
	}
}

// memoryLists: lists formed and not, that hold something or nothing.
func memoryLists() [][]api.Body {
	lists := append(formedLists(), anyLists(2)...)
	for _, w := range wrongLists() {
		if wordUsed(w.l) < 9999 {
			lists = append(lists, w.l)
		}
	}
	return lists
}

// P1 (rule 5): what is handed in stays as it is, its spare room too.
func TestArgumentsStay(t *testing.T) {
	for _, l := range memoryLists() {
		l := roomy(l)
		wasL := whole(l)
		for _, put := range someBodies() {
			x := roomy(row(put))
			wasX := whole(x)
			for _, room := range []int{0, 5, wordUsed(l), 1 << 24} {
				cache.Formed(l, room)
				cache.Put(l, room, x[0])
			}
			cache.Used(l)
			cache.Get(l, put.Object, put.Stamp)
			cache.Forget(l, put.Object)
			if !same(whole(x), wasX) {
				t.Fatal("changed:", x)
			}
		}
		if !same(whole(l), wasL) {
			t.Fatal("changed:", l)
		}
	}
}

// answersOf: what the calls answer of a list and a body, in lists of bodies.
func answersOf(l []api.Body, x api.Body) [][]api.Body {
	var out [][]api.Body
	for _, room := range []int{wordUsed(l), 1 << 24} {
		put, _ := cache.Put(l, room, x)
		out = append(out, put)
	}
	for _, y := range l[:min(len(l), 3)] {
		v, _ := cache.Get(l, y.Object, y.Stamp)
		out = append(out, row(api.Body{Value: v}))
	}
	return append(out, cache.Forget(l, x.Object), cache.Forget(l, -9))
}

// P1 (rule 5): what is answered shares no memory with an argument, nor with another answer.
func TestAnswersAreNewMemory(t *testing.T) {
	for _, l := range memoryLists() {
		for _, put := range someBodies()[:5] {
			l, x := roomy(l), roomy(row(put))
			wasL, wasX := whole(l), whole(x)
			answers := append(answersOf(l, x[0]), answersOf(l, x[0])...)
			var were [][]api.Body
			for _, a := range answers {
				were = append(were, copied(a))
			}
			for i, a := range answers {
				if !same(a, were[i]) {
					t.Fatal(l, x, "two answers share")
				}
				scribble(a)
			}
			if !same(whole(l), wasL) || !same(whole(x), wasX) {
				t.Fatal(l, x, "an answer shares with an argument")
			}
		}
	}
}

// P1 (rule 6): spare room behind a Value, or behind the list, is none of its bytes.
func TestSpareRoomIsNotCounted(t *testing.T) {
	value := append(make([]byte, 0, 5000), strings.Repeat("v", 256)...)
	x := api.Body{Object: 3, Stamp: at(5, 0), Value: value}
	l := append(make([]api.Body, 0, 500), x)
	if !cache.Formed(l, 256) || cache.Formed(l, 255) || cache.Used(l) != 256 {
		t.Error(cache.Used(l))
	}
	if v, e := cache.Get(l, 3, at(5, 0)); !bytes.Equal(v, value) || e != api.OK {
		t.Error(len(v), e)
	}
	if got := checkPut(t, l, 256, x); len(got) != 1 {
		t.Error(got)
	}
	x.Object = 4
	if got := checkPut(t, l, 512, x); len(got) != 2 || !same(cache.Forget(got, 4), l) {
		t.Error(got)
	}
}

// P1 (rule 5): no two Values of one answer share memory, even if those that were handed in do.
func TestValuesOfOneAnswerAreApart(t *testing.T) {
	value := []byte("shared by all")
	l := row(body(1, 1, 0, ""), body(2, 2, 0, ""), body(3, 3, 0, ""))
	for i := range l {
		l[i].Value = value
	}
	put, e := cache.Put(l, 99, api.Body{Object: 4, Stamp: at(4, 0), Value: value})
	if e != api.OK || len(put) != 4 {
		t.Fatal(put, e)
	}
	for _, answer := range [][]api.Body{put, cache.Forget(l, 9)} {
		for i, x := range answer {
			if string(x.Value) != "shared by all" {
				t.Fatal(i, "shares with one ahead of it")
			}
			scribbleBytes(x.Value)
		}
	}
	if string(value) != "shared by all" {
		t.Error("an answer shares with an argument")
	}
}

// P1 (rule 6): a call hangs on its arguments alone: not on those ahead of it, nor on whether what holds nothing is nil or empty.
func TestNothingIsKept(t *testing.T) {
	for range 2 {
		for _, l := range [][]api.Body{nil, row()} {
			if !cache.Formed(l, 0) || cache.Used(l) != 0 || len(cache.Forget(l, 3)) > 0 {
				t.Error(l)
			}
			if v, e := cache.Get(l, 0, at(0, 0)); len(v) > 0 || e != api.ErrNoBody {
				t.Error(v, e)
			}
			for _, v := range [][]byte{nil, {}} {
				x := api.Body{Object: 3, Stamp: at(5, 0), Value: v}
				got := checkPut(t, l, 0, x)
				if v, e := cache.Get(row(x), 3, at(5, 0)); len(v) > 0 || e != api.OK {
					t.Error(v, e)
				}
				checkPut(t, got, 0, x)
			}
		}
		checkPut(t, everyObject(256), 1<<16, sized(3, 256))
		checkPut(t, nil, 5, body(3, 5, 0, "abc"))
	}
}
