package shelf_test

import (
	"math"
	"math/rand"
	"slices"
	"testing"

	"telltale/api"
	"telltale/shelf"
	"telltale/span"
)

func at(count, node int) api.Stamp { return api.Stamp{Count: count, Node: node} }

func to(lo, hi int) api.Span { return api.Span{Lo: lo, Hi: hi} }

// put, gone: a write of an object, and one that deletes it.
func put(o, count, node int) api.Write { return api.Write{Stamp: at(count, node), Object: o} }

func gone(o, count, node int) api.Write {
	return api.Write{Stamp: at(count, node), Object: o, Gone: true}
}

func row(list ...api.Write) []api.Write { return list }

func set(list ...api.Span) []api.Span { return list }

// wordRight: what the chapter asks of a write.
func wordRight(w api.Write) bool {
	s := w.Stamp
	return s.Count >= 1 && s.Node >= 0 && s.Node <= 63 && w.Object >= 0 && w.Object <= 255
}

// wordFormed: what the chapter asks of a shelf, of each write and of each two of them.
func wordFormed(l []api.Write) bool {
	for i, w := range l {
		if !wordRight(w) {
			return false
		}
		for _, before := range l[:i] {
			if before.Object >= w.Object {
				return false
			}
		}
	}
	return true
}

// writeOf: a list's first write of an object.
func writeOf(l []api.Write, o int) (api.Write, bool) {
	for _, w := range l {
		if w.Object == o {
			return w, true
		}
	}
	return api.Write{}, false
}

// newer: does a come behind b?
func newer(a, b api.Stamp) bool {
	return a.Count > b.Count || a.Count == b.Count && a.Node > b.Node
}

// wordPut: a shelf behind some writes, one after the other.
func wordPut(l []api.Write, list ...api.Write) ([]api.Write, api.Errno) {
	if !wordFormed(l) {
		return nil, api.ErrArg
	}
	for _, w := range list {
		if !wordRight(w) {
			return nil, api.ErrArg
		}
	}
	out := slices.Clone(l)
	for _, w := range list {
		place := 0
		for place < len(out) && out[place].Object < w.Object {
			place++
		}
		switch {
		case place == len(out) || out[place].Object > w.Object:
			out = slices.Insert(out, place, w)
		case newer(w.Stamp, out[place].Stamp):
			out[place] = w
		}
	}
	return out, api.OK
}

// isIn: is an object in any list of spans?
func isIn(l []api.Span, o int) bool {
	for _, s := range l {
		if o >= 0 && o <= 255 && o >= s.Lo && o <= s.Hi {
			return true
		}
	}
	return false
}

// wordWithin: the writes of the objects that are in any list of spans.
func wordWithin(l []api.Write, interest []api.Span) ([]api.Write, api.Errno) {
	if !wordFormed(l) {
		return nil, api.ErrArg
	}
	var out []api.Write
	for o := range 256 {
		if w, is := writeOf(l, o); is && isIn(interest, o) {
			out = append(out, w)
		}
	}
	return out, api.OK
}

// everyObject: a shelf of all objects.
func everyObject() []api.Write {
	var l []api.Write
	for o := range 256 {
		l = append(l, api.Write{Stamp: at(1+(o*7)%5, o%64), Object: o, Gone: o%3 == 0})
	}
	return l
}

// formedShelves: shelves that are formed, up to their edges.
func formedShelves() [][]api.Write {
	all := everyObject()
	return [][]api.Write{
		nil, {},
		row(put(0, 1, 0)),
		row(gone(0, 1, 0)),
		row(put(255, api.MaxCount, 63)),
		row(gone(255, api.MaxCount, 63)),
		row(put(0, 1, 0), put(1, 1, 0)),
		row(put(0, 5, 3), gone(255, 5, 3)),
		row(put(3, 9, 0), put(4, 8, 63), gone(5, 7, 1), put(200, 1, 0)),
		row(gone(0, api.MaxCount, 0), put(1, 1, 63), put(127, 2, 2), gone(128, 2, 2), put(254, 1, 0), gone(255, 1, 0)),
		all, all[:255], all[1:], slices.Concat(all[:100], all[101:]),
	}
}

// wrongWrites: writes that aren't right, in each of the ways that make them so.
func wrongWrites() []api.Write {
	return []api.Write{
		{}, {Gone: true}, {Object: 3},
		put(-1, 5, 0), put(256, 5, 0), put(257, 5, 0), put(-256, 5, 0), put(1<<32, 5, 0), put(math.MinInt, 5, 0), put(math.MaxInt, 5, 0),
		put(3, 0, 0), put(3, -1, 0), put(3, math.MinInt, 0), put(3, 0, 63),
		put(3, 5, -1), put(3, 5, 64), put(3, 5, 65), put(3, 5, math.MinInt), put(3, 5, math.MaxInt),
		put(0, 0, 0), put(255, 0, 63), put(255, 9, 64), gone(255, api.MaxCount, -1),
		put(-1, 0, 64), gone(256, -1, -1), put(math.MaxInt, math.MinInt, math.MaxInt),
	}
}

// wrong: a list that isn't a shelf, and why.
type wrong struct {
	why string
	l   []api.Write
}

// wrongShelves: lists that aren't formed, in each of the ways that make them so.
func wrongShelves() []wrong {
	var list []wrong
	add := func(why string, l ...api.Write) { list = append(list, wrong{why, l}) }
	for _, w := range wrongWrites() {
		add("no right write", w)
		add("no right write, the last one", put(0, 5, 0), w)
		add("no right write, the first one", w, put(255, 5, 0))
		add("no right write, in the midst", put(0, 5, 0), w, put(255, 5, 0))
	}
	add("out of order", put(5, 1, 0), put(4, 1, 0))
	add("out of order", put(255, 1, 0), put(0, 2, 0))
	add("out of order, the first ones", put(5, 1, 0), put(4, 1, 0), put(9, 1, 0))
	add("out of order, the last ones", put(0, 1, 0), put(9, 1, 0), put(8, 1, 0))
	add("out of order, not beside one another", put(4, 1, 0), put(9, 1, 0), put(3, 1, 0))
	add("twice", put(5, 1, 0), put(5, 1, 0))
	add("twice, the newer one behind", put(5, 1, 0), put(5, 2, 0))
	add("twice, the newer one ahead", gone(5, 2, 0), put(5, 1, 0))
	add("twice the first object", put(0, 1, 0), put(0, 1, 1))
	add("twice the last object", put(254, 1, 0), put(255, 1, 0), gone(255, 2, 1))
	add("twice, not beside one another", put(4, 1, 0), put(9, 1, 0), put(4, 2, 0))
	all := everyObject()
	add("a write more than there are objects", append(slices.Clone(all), put(256, 1, 0))...)
	add("a write more than there are objects", append(slices.Clone(all), put(255, 1, 0))...)
	add("all, the other way round", backward(all)...)
	return list
}

// backward: a list, the other way round.
func backward(l []api.Write) []api.Write {
	out := slices.Clone(l)
	slices.Reverse(out)
	return out
}

// numbers: all objects, and whole numbers that are none.
func numbers() []int {
	list := []int{math.MinInt, -256, -1, 256, 257, 511, math.MaxInt, 1 << 32}
	for o := range 256 {
		list = append(list, o)
	}
	return list
}

// interests: lists of spans, sets and not.
func interests() [][]api.Span {
	return [][]api.Span{
		nil, set(), set(to(0, 255)), set(to(0, 0)), set(to(255, 255)), set(to(4, 4)), set(to(0, 99)), set(to(100, 255)), set(to(1, 254)), set(to(3, 5)), set(to(0, 0), to(255, 255)), set(to(5, 127), to(129, 200)),
		set(to(255, 300), to(-7, 0)), set(to(4, 3)), set(to(256, 999)), set(to(-9, -1)), set(to(20, 30), to(3, 25), to(3, 25)), set(to(math.MinInt, math.MaxInt)), set(to(math.MaxInt, math.MinInt)), set(to(9, 8), to(10, 11), to(5, 5)), set(to(255, 0)),
	}
}

// collect: what All goes through; each write must stand beside its own object.
func collect(t *testing.T, l []api.Write) []api.Write {
	t.Helper()
	var out []api.Write
	for o, w := range shelf.All(l) {
		if o != w.Object {
			t.Fatal(l, "the object", o, "beside", w)
		}
		out = append(out, w)
	}
	return out
}

// refused: do all calls answer that a list isn't formed?
func refused(t *testing.T, why string, l []api.Write) {
	t.Helper()
	if shelf.Formed(l) {
		t.Fatal(why, l, "is formed")
	}
	for _, o := range []int{-1, 0, 3, 4, 5, 255, 256} {
		if w, e := shelf.Get(l, o); w != (api.Write{}) || e != api.ErrArg {
			t.Fatal(why, l, "get of", o, w, e)
		}
	}
	for _, list := range [][]api.Write{nil, row(put(7, 1, 0)), row(put(7, 1, 0), gone(3, 9, 9)), row(put(256, 0, 64))} {
		if got, e := shelf.Put(l, list...); len(got) > 0 || e != api.ErrArg {
			t.Fatal(why, l, "put of", list, got, e)
		}
	}
	for _, interest := range [][]api.Span{nil, set(to(0, 255)), set(to(4, 3))} {
		if got, e := shelf.Within(l, interest); len(got) > 0 || e != api.ErrArg {
			t.Fatal(why, l, "within", interest, got, e)
		}
	}
	if got := collect(t, l); len(got) > 0 {
		t.Fatal(why, l, "all:", got)
	}
}

// P11.1: Formed, of what is formed; and that each call goes by it, of what isn't in each of the ways.
func TestFormed(t *testing.T) {
	for _, l := range formedShelves() {
		if !wordFormed(l) {
			t.Fatal("the test's own words differ:", l)
		}
		if !shelf.Formed(l) {
			t.Error("is formed:", l)
		}
	}
	for _, w := range wrongShelves() {
		if wordFormed(w.l) {
			t.Fatal("the test's own words differ:", w.why, w.l)
		}
		refused(t, w.why, w.l)
	}
}

// P11.1: an error is told ahead of there being no such object.
func TestErrorsInOrder(t *testing.T) {
	twice := row(put(5, 1, 0), put(5, 2, 0))
	for _, o := range []int{math.MinInt, -1, 6, 256, math.MaxInt} {
		if w, e := shelf.Get(twice, o); w != (api.Write{}) || e != api.ErrArg {
			t.Error("get of", o, w, e)
		}
		if w, e := shelf.Get(nil, o); w != (api.Write{}) || e != api.ErrNotFound {
			t.Error("get of", o, w, e)
		}
	}
}

// anyLists: all lists of up to so many writes from a pool of right and wrong ones.
func anyLists(most int) [][]api.Write {
	var pool []api.Write
	for _, o := range []int{-1, 0, 1, 128, 255, 256} {
		pool = append(pool, put(o, 1, 0), gone(o, api.MaxCount, 63), put(o, 0, 0))
	}
	pool = append(pool, put(1, 1, 64), put(1, 1, -1), put(1, -1, 0))
	all := [][]api.Write{nil}
	for from := 0; len(all[from]) < most; from++ {
		for _, w := range pool {
			all = append(all, append(slices.Clone(all[from]), w))
		}
	}
	return all
}

// P11.1: any lists as shelves, right or wrong in any number of ways at once.
func TestAnyLists(t *testing.T) {
	formed := 0
	for _, l := range anyLists(3) {
		if !wordFormed(l) {
			refused(t, "by the chapter's words", l)
			continue
		}
		formed++
		if !shelf.Formed(l) {
			t.Fatal("is formed:", l)
		}
		if got := collect(t, l); !slices.Equal(got, l) {
			t.Fatal(l, "all:", got)
		}
	}
	if formed != 1+8+24+32 {
		t.Error(formed)
	}
}

// P11.1: any lists, put upon nothing and upon shelves.
func TestPutOfAnyLists(t *testing.T) {
	lists := anyLists(3)
	for i, list := range lists {
		for _, l := range [][]api.Write{nil, formedShelves()[i%len(formedShelves())], lists[i%400]} {
			checkPut(t, l, list...)
		}
	}
}

// checkPut: writes that are put in, against the document's words and the promises.
func checkPut(t *testing.T, l []api.Write, list ...api.Write) []api.Write {
	t.Helper()
	want, wantE := wordPut(l, list...)
	got, e := shelf.Put(l, list...)
	if !slices.Equal(got, want) || e != wantE {
		t.Fatal(l, "put of", list, got, e, "asked for:", want, wantE)
	}
	if !shelf.Formed(got) || !wordFormed(got) {
		t.Fatal(l, "put of", list, "isn't formed:", got)
	}
	return got
}

// P11.1: Get, of each object and of what is none.
func TestGet(t *testing.T) {
	for _, l := range formedShelves() {
		for _, o := range numbers() {
			want, is := writeOf(l, o)
			wantE := api.OK
			if !is {
				wantE = api.ErrNotFound
			}
			if got, e := shelf.Get(l, o); got != want || e != wantE {
				t.Fatal(l, "get of", o, got, e)
			}
		}
	}
}

// P11.1: one write that isn't right among others: nothing is put in, whatever stands ahead of it.
func TestPutRefuses(t *testing.T) {
	good := row(put(0, 9, 0), gone(3, 9, 1), put(255, 9, 2), put(3, 10, 0))
	for _, l := range formedShelves() {
		for _, w := range wrongWrites() {
			for place := range len(good) + 1 {
				list := slices.Insert(slices.Clone(good), place, w)
				if got, e := shelf.Put(l, list...); len(got) > 0 || e != api.ErrArg {
					t.Fatal(l, "put of", list, got, e)
				}
			}
			if got, e := shelf.Put(l, w); len(got) > 0 || e != api.ErrArg {
				t.Fatal(l, "put of", w, got, e)
			}
		}
		checkPut(t, l, good...)
		checkPut(t, l)
	}
}

// edges: stamps at the edges, each one newer than those ahead of it.
func edges() []api.Stamp {
	return []api.Stamp{at(1, 0), at(1, 1), at(1, 63), at(2, 0), at(2, 62), at(3, 1), at(1<<32, 0), at(1<<32+1, 63), at(api.MaxCount-1, 63), at(api.MaxCount, 0), at(api.MaxCount, 63)}
}

// P11.1: of two writes of one object the newer one is there, whichever was there first; of the same stamp the one that was.
func TestPutNewer(t *testing.T) {
	for _, o := range []int{0, 1, 100, 254, 255} {
		for i, a := range edges() {
			for k, b := range edges() {
				for _, goes := range []bool{false, true} {
					first, second := api.Write{Stamp: a, Object: o, Gone: goes}, api.Write{Stamp: b, Object: o, Gone: !goes}
					want := first
					if k > i {
						want = second
					}
					for _, got := range [][]api.Write{checkPut(t, row(first), second), checkPut(t, nil, first, second)} {
						if !slices.Equal(got, row(want)) {
							t.Fatal(first, "and then", second, got)
						}
					}
				}
			}
		}
	}
}

// smallShelves: all shelves of some objects, each there with one of a few writes, or not.
func smallShelves(objects ...int) [][]api.Write {
	all := [][]api.Write{nil}
	for _, o := range objects {
		for _, l := range slices.Clone(all) {
			for _, w := range row(put(o, 2, 1), gone(o, 2, 0), put(o, 1, 63)) {
				all = append(all, append(slices.Clone(l), w))
			}
		}
	}
	return all
}

// P11.1: Put of a small world: all shelves of three objects, and all rows of up to three writes of these.
func TestPutOfSome(t *testing.T) {
	objects := []int{0, 7, 255}
	var pool []api.Write
	for _, o := range objects {
		pool = append(pool, gone(o, 1, 63), put(o, 2, 0), gone(o, 2, 1), put(o, 2, 2))
	}
	lists := [][]api.Write{nil}
	for from := 0; len(lists[from]) < 3; from++ {
		for _, w := range pool {
			lists = append(lists, append(slices.Clone(lists[from]), w))
		}
	}
	for _, l := range smallShelves(objects...) {
		for _, list := range lists {
			once := checkPut(t, l, list...)
			if again, e := shelf.Put(once, list...); e != api.OK || !slices.Equal(again, once) {
				t.Fatal(l, "put of", list, "twice:", again, e, "once:", once)
			}
		}
	}
}

// newestOf: of each object that some writes are of the newest one, the first one of these.
func newestOf(list []api.Write) []api.Write {
	var out []api.Write
	for o := range 256 {
		best, is := api.Write{}, false
		for _, w := range list {
			if w.Object == o && (!is || newer(w.Stamp, best.Stamp)) {
				best, is = w, true
			}
		}
		if is {
			out = append(out, best)
		}
	}
	return out
}

// orders: all orders of some writes.
func orders(list []api.Write) [][]api.Write {
	if len(list) == 0 {
		return [][]api.Write{nil}
	}
	var all [][]api.Write
	for i, w := range list {
		rest := slices.Delete(slices.Clone(list), i, i+1)
		for _, order := range orders(rest) {
			all = append(all, append(row(w), order...))
		}
	}
	return all
}

// parted: a shelf behind puts of a row, which ends one where a bit of parts is set.
func parted(t *testing.T, list []api.Write, parts int) []api.Write {
	t.Helper()
	var l, next []api.Write
	for i, w := range list {
		next = append(next, w)
		if parts>>i&1 == 1 {
			l, next = checkPut(t, l, next...), nil
		}
	}
	return checkPut(t, l, next...)
}

// P11.2: whatever the order, and however they are parted into puts.
func TestNewestInAnyOrder(t *testing.T) {
	for _, list := range [][]api.Write{
		row(put(3, 5, 0), put(3, 6, 1), put(3, 6, 0)),
		row(put(3, 5, 0), gone(3, 6, 1), put(4, 6, 0), put(3, 7, 0), put(4, 5, 63)),
		row(gone(0, 1, 0), put(255, 1, 1), gone(255, 2, 0), put(0, 1, 1), put(255, api.MaxCount, 0)),
		row(put(0, 1, 63), put(0, 2, 0), put(0, 2, 1), put(0, 3, 0), gone(0, api.MaxCount, 63)),
	} {
		want := newestOf(list)
		for _, order := range orders(list) {
			for parts := range 1 << len(list) {
				if got := parted(t, order, parts); !slices.Equal(got, want) {
					t.Fatal(order, parts, got, "asked for:", want)
				}
			}
		}
	}
}

// chance: things made by a row of numbers that is the same each time.
type chance struct{ *rand.Rand }

// writes: of some of the objects, no two of one stamp.
func (c chance) writes(objects, counts, n int) []api.Write {
	seen := map[api.Stamp]int{}
	var list []api.Write
	for range n {
		w := api.Write{Stamp: at(1+c.Intn(counts), c.Intn(64)), Object: c.Intn(objects) * 255 / max(1, objects-1), Gone: c.Intn(3) == 0}
		if seen[w.Stamp] == 0 {
			list = append(list, w)
		}
		seen[w.Stamp]++
	}
	return list
}

// P11.2: longer rows, of few objects and of all, in any order and in any parts.
func TestNewestOfMany(t *testing.T) {
	c := chance{rand.New(rand.NewSource(11))}
	for range 600 {
		list := c.writes(1+c.Intn(256), 1+c.Intn(200), 1+c.Intn(400))
		want := newestOf(list)
		for range 3 {
			c.Shuffle(len(list), func(i, k int) { list[i], list[k] = list[k], list[i] })
			var l []api.Write
			for rest := list; len(rest) > 0; {
				n := min(len(rest), c.Intn(90))
				l = checkPut(t, l, rest[:n]...)
				rest = rest[n:]
			}
			if !slices.Equal(l, want) {
				t.Fatal(list, l, "asked for:", want)
			}
		}
		for o := range 256 {
			w, is := writeOf(want, o)
			if got, e := shelf.Get(want, o); got != w || (e == api.OK) != is {
				t.Fatal(want, "get of", o, got, e)
			}
		}
	}
}

// P11.1: Within, of any list of spans.
func TestWithin(t *testing.T) {
	for _, l := range append(formedShelves(), smallShelves(3, 4, 255)...) {
		for _, interest := range interests() {
			want, _ := wordWithin(l, interest)
			got, e := shelf.Within(l, interest)
			if e != api.OK || !slices.Equal(got, want) || !shelf.Formed(got) {
				t.Fatal(l, "within", interest, got, e)
			}
			rest, e := shelf.Within(l, span.Less(set(to(0, 255)), interest))
			if e != api.OK {
				t.Fatal(e)
			}
			if both := checkPut(t, rest, got...); !slices.Equal(both, l) {
				t.Fatal(l, "within", interest, "and the rest:", both)
			}
		}
	}
}

// P11.1: All, in order, each write beside its object; and it may be left anywhere.
func TestAll(t *testing.T) {
	for _, l := range formedShelves() {
		if got := collect(t, l); !slices.Equal(got, l) {
			t.Fatal(l, "all:", got)
		}
		for stop := range l {
			var got []api.Write
			for _, w := range shelf.All(l) {
				got = append(got, w)
				if len(got) == stop+1 {
					break
				}
			}
			if !slices.Equal(got, l[:stop+1]) {
				t.Fatal(l, "left at", stop, got)
			}
		}
	}
}

// P11.1: a range is gone through as often as one likes, also within itself.
func TestAllAgain(t *testing.T) {
	l := row(put(3, 9, 0), put(4, 8, 63), gone(5, 7, 1))
	all := shelf.All(l)
	for range 3 {
		var got []int
		for o := range all {
			for inner := range all {
				if inner == 5 {
					break
				}
				got = append(got, o, inner)
			}
		}
		if !slices.Equal(got, []int{3, 3, 3, 4, 4, 3, 4, 4, 5, 3, 5, 4}) {
			t.Error(got)
		}
	}
}

// P1 (rules 5 and 6): a range goes over what was there when the call was made, and keeps nothing of the list.
func TestAllGoesOverWhatWas(t *testing.T) {
	l := row(put(3, 9, 0), put(4, 8, 63))
	was := slices.Clone(l)
	all := shelf.All(l)
	l[0], l[1] = put(-7, 0, 99), put(2, 1, 1)
	var got []api.Write
	for _, w := range all {
		got = append(got, w)
	}
	if !slices.Equal(got, was) {
		t.Error(got)
	}
	none := row(put(4, 1, 0), put(4, 2, 0))
	all = shelf.All(none)
	none[1].Object = 5
	for o, w := range all {
		t.Error("wasn't formed:", o, w)
	}
}

// P11.1: the document's examples, and the edges that it names.
func TestExamples(t *testing.T) {
	for _, c := range []struct {
		why           string
		l, list, want []api.Write
		e             api.Errno
	}{
		{"the document's", nil, row(put(3, 5, 0), put(3, 6, 1), put(3, 6, 0)), row(put(3, 6, 1)), api.OK},
		{"nothing upon nothing", nil, nil, nil, api.OK},
		{"nothing upon something", row(put(3, 6, 1)), nil, row(put(3, 6, 1)), api.OK},
		{"the first one of all", nil, row(put(0, 1, 0)), row(put(0, 1, 0)), api.OK},
		{"ahead", row(put(3, 6, 1)), row(put(2, 1, 0)), row(put(2, 1, 0), put(3, 6, 1)), api.OK},
		{"behind", row(put(3, 6, 1)), row(put(4, 1, 0)), row(put(3, 6, 1), put(4, 1, 0)), api.OK},
		{"between", row(put(0, 6, 1), put(255, 6, 2)), row(put(9, 1, 0)), row(put(0, 6, 1), put(9, 1, 0), put(255, 6, 2)), api.OK},
		{"older", row(put(3, 6, 1)), row(put(3, 6, 0)), row(put(3, 6, 1)), api.OK},
		{"older by its count, of a greater node", row(put(3, 6, 1)), row(put(3, 5, 63)), row(put(3, 6, 1)), api.OK},
		{"newer by its node", row(put(3, 6, 1)), row(put(3, 6, 2)), row(put(3, 6, 2)), api.OK},
		{"newer by its count, of a lesser node", row(put(3, 6, 1)), row(put(3, 7, 0)), row(put(3, 7, 0)), api.OK},
		{"the same once more", row(put(3, 6, 1)), row(put(3, 6, 1)), row(put(3, 6, 1)), api.OK},
		{"the same stamp, but gone", row(put(3, 6, 1)), row(gone(3, 6, 1)), row(put(3, 6, 1)), api.OK},
		{"the same stamp, and not gone", row(gone(3, 6, 1)), row(put(3, 6, 1)), row(gone(3, 6, 1)), api.OK},
		{"gone", row(put(3, 6, 1)), row(gone(3, 7, 1)), row(gone(3, 7, 1)), api.OK},
		{"back again", row(gone(3, 6, 1)), row(put(3, 7, 1)), row(put(3, 7, 1)), api.OK},
		{"gone, but older", row(put(3, 6, 1)), row(gone(3, 5, 1)), row(put(3, 6, 1)), api.OK},
		{"one stamp of two objects", row(put(3, 6, 1)), row(put(4, 6, 1)), row(put(3, 6, 1), put(4, 6, 1)), api.OK},
		{"right ones ahead of a wrong one", row(put(3, 6, 1)), row(put(3, 7, 1), put(4, 0, 1)), nil, api.ErrArg},
		{"an older one that isn't right", row(put(3, 6, 1)), row(put(3, 5, -1)), nil, api.ErrArg},
		{"one that isn't right, and the same again", row(put(3, 6, 1)), row(put(3, 6, 64), put(3, 7, 1)), nil, api.ErrArg},
	} {
		if got, e := shelf.Put(c.l, c.list...); !slices.Equal(got, c.want) || e != c.e {
			t.Error(c.why, got, e)
		}
	}
	if w, e := shelf.Get(row(put(3, 6, 1)), 4); w != (api.Write{}) || e != api.ErrNotFound {
		t.Error(w, e)
	}
	if w, e := shelf.Get(row(gone(3, 6, 1)), 3); w != gone(3, 6, 1) || e != api.OK {
		t.Error(w, e)
	}
}

// P1 (rule 1): lists as long as they like end soon.
func TestLongLists(t *testing.T) {
	many := make([]api.Write, 1<<20)
	for i := range many {
		many[i] = put(i%256, 1+(i*7)%1000, i%64)
	}
	want := newestOf(many[:64000])
	if got, e := shelf.Put(nil, many[:64000]...); e != api.OK || !slices.Equal(got, want) {
		t.Error(got, e)
	}
	if got, e := shelf.Put(everyObject(), many...); e != api.OK || len(got) != 256 {
		t.Error(got, e)
	}
	if got, e := shelf.Put(everyObject(), append(many, put(256, 1, 0))...); e != api.ErrArg || len(got) > 0 {
		t.Error(got, e)
	}
	refused(t, "long", many)
	spans := make([]api.Span, 1<<20)
	for i := range spans {
		spans[i] = to(1+i%3+i/100, i/100)
	}
	spans[len(spans)-1] = to(7, 9)
	if got, e := shelf.Within(everyObject(), spans); e != api.OK || !slices.Equal(got, everyObject()[7:10]) {
		t.Error(got, e)
	}
}

// roomy: a copy of a list with spare room, filled with what would be seen if it were changed.
func roomy[T any](list []T, fill ...T) []T {
	return append(slices.Clone(list), fill...)[:len(list)]
}

// whole: a copy of all that a list holds, its spare room too.
func whole[T any](list []T) []T { return slices.Clone(list[:cap(list)]) }

// P1 (rule 5): what is handed in stays as it is, its spare room too.
func TestArgumentsStay(t *testing.T) {
	shelves := append(formedShelves(), smallShelves(2, 3)...)
	for _, w := range wrongShelves() {
		shelves = append(shelves, w.l)
	}
	lists := [][]api.Write{nil, row(put(3, 99, 5)), row(put(9, 1, 0), gone(3, 99, 5), put(0, 7, 7), put(0, 6, 7)), row(put(9, 1, 0), put(256, 1, 0)), everyObject()}
	for i, l := range shelves {
		for k, list := range lists {
			l, list := roomy(l, put(300, 0, 99), put(-1, 5, 5)), roomy(list, put(3, 100, 0), put(-1, 5, 5))
			interest := roomy(interests()[(i+k)%len(interests())], to(5, 4), to(8, 8))
			wasL, wasList, wasInterest := whole(l), whole(list), whole(interest)
			shelf.Formed(l)
			shelf.Get(l, 3)
			shelf.Get(l, 255)
			shelf.Put(l, list...)
			shelf.Within(l, interest)
			collect(t, l)
			if !slices.Equal(whole(l), wasL) || !slices.Equal(whole(list), wasList) || !slices.Equal(whole(interest), wasInterest) {
				t.Fatal("changed:", l, list, interest)
			}
		}
	}
}

func scribble(list []api.Write) {
	for i := range list[:cap(list)] {
		list[:cap(list)][i] = put(-3, -3, -3)
	}
}

// P1 (rule 5): what is answered shares no memory with an argument, nor with another answer.
func TestAnswersAreNewMemory(t *testing.T) {
	for _, l := range append(formedShelves(), smallShelves(2, 3)...) {
		for _, list := range [][]api.Write{nil, row(put(1, 1, 1)), row(put(3, 99, 5), put(200, 1, 0))} {
			l, list := roomy(l, put(300, 0, 99)), roomy(list, put(300, 0, 99))
			wasL, wasList := whole(l), whole(list)
			var answers [][]api.Write
			for range 2 {
				puts, _ := shelf.Put(l, list...)
				within, _ := shelf.Within(l, set(to(0, 255)))
				answers = append(answers, puts, within)
			}
			for i, a := range answers {
				others := slices.Delete(slices.Clone(answers), i, i+1)
				var were [][]api.Write
				for _, other := range others {
					were = append(were, slices.Clone(other))
				}
				scribble(a)
				for k, other := range others {
					if !slices.Equal(other, were[k]) {
						t.Fatal(l, list, "two answers share")
					}
				}
			}
			if !slices.Equal(whole(l), wasL) || !slices.Equal(whole(list), wasList) {
				t.Fatal(l, list, "an answer shares with an argument")
			}
		}
	}
}

// P1 (rule 6): a call hangs on its arguments alone: not on those ahead of it, nor on whether what holds nothing is nil or empty.
func TestNothingIsKept(t *testing.T) {
	for range 2 {
		for _, l := range [][]api.Write{nil, row()} {
			if got, e := shelf.Put(l, row()...); e != api.OK || len(got) > 0 {
				t.Error(got, e)
			}
			if got, e := shelf.Within(l, set()); e != api.OK || len(got) > 0 {
				t.Error(got, e)
			}
			if got := collect(t, l); len(got) > 0 || !shelf.Formed(l) {
				t.Error(got)
			}
		}
		checkPut(t, everyObject(), everyObject()...)
		checkPut(t, nil, put(3, 5, 0))
	}
}
