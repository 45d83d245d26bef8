package span_test

import (
	"math"
	"slices"
	"testing"

	"telltale/api"
	"telltale/span"
)

func to(lo, hi int) api.Span { return api.Span{Lo: lo, Hi: hi} }

func of(list ...api.Span) []api.Span { return list }

// isIn: what the document says of an object in a list, looked for word by word.
func isIn(l []api.Span, o int) bool {
	if o < 0 || o > 255 {
		return false
	}
	for _, s := range l {
		if !(o < s.Lo) && !(o > s.Hi) {
			return true
		}
	}
	return false
}

// objectsIn: the objects in a list, rising.
func objectsIn(l []api.Span) []int {
	var objects []int
	for o := range 256 {
		if isIn(l, o) {
			objects = append(objects, o)
		}
	}
	return objects
}

// formed: the set of the objects that are asked for, made by its runs.
func formed(in func(o int) bool) []api.Span {
	var l []api.Span
	for lo := 0; lo < 256; lo++ {
		if !in(lo) {
			continue
		}
		hi := lo
		for hi+1 < 256 && in(hi+1) {
			hi++
		}
		l = append(l, to(lo, hi))
		lo = hi
	}
	return l
}

// isFormed: what the document asks of a set, each span and each two of them.
func isFormed(l []api.Span) bool {
	for i, s := range l {
		if s.Lo < 0 || s.Lo > 255 || s.Hi < 0 || s.Hi > 255 || s.Lo > s.Hi {
			return false
		}
		for _, before := range l[:i] {
			if s.Lo-before.Hi < 2 {
				return false
			}
		}
	}
	return true
}

// pool: spans, of objects and not, of which lists are made.
func pool() []api.Span {
	return of(
		to(0, 0), to(255, 255), to(0, 255), to(1, 2), to(3, 4), to(2, 6), to(8, 100), to(253, 254),
		to(5, 4), to(255, 0), to(256, -1), to(-1, 0), to(-1, 256), to(255, 256), to(256, 256), to(-1, -1), to(-9, 1), to(254, 300),
		to(math.MinInt, math.MaxInt), to(math.MaxInt, math.MinInt), to(math.MinInt, 3), to(7, math.MaxInt),
		to(math.MinInt, math.MinInt), to(math.MaxInt, math.MaxInt), to(math.MinInt, -1), to(256, math.MaxInt),
	)
}

// anyLists: all lists of up to so many spans of the pool, in any order, any of them more than once.
func anyLists(most int) [][]api.Span {
	all := [][]api.Span{nil}
	for from := 0; len(all[from]) < most; from++ {
		for _, s := range pool() {
			all = append(all, append(slices.Clone(all[from]), s))
		}
	}
	return all
}

// sets: all sets of the first four objects and the last four.
func sets() [][]api.Span {
	var all [][]api.Span
	for bits := range 256 {
		all = append(all, formed(func(o int) bool {
			return o < 4 && bits>>o&1 == 1 || o > 251 && bits>>(o-248)&1 == 1
		}))
	}
	return all
}

// whole: all objects. most: as many spans as a set can have.
func whole() []api.Span { return of(to(0, 255)) }

func most() []api.Span { return formed(func(o int) bool { return o%2 == 0 }) }

// someLists: sets, and lists that aren't formed.
func someLists() [][]api.Span {
	return append(anyLists(1),
		[]api.Span{},
		most(),
		formed(func(o int) bool { return o%2 == 1 }),
		formed(func(o int) bool { return o%7 < 3 }),
		of(to(1, 3), to(7, 7)),
		of(to(1, 2), to(4, 7), to(9, 255)),
		of(to(7, 7), to(1, 3)),
		of(to(1, 3), to(3, 4)),
		of(to(1, 3), to(4, 5)),
		of(to(1, 9), to(3, 4)),
		of(to(3, 4), to(1, 9)),
		of(to(3, 4), to(3, 4), to(3, 4)),
		of(to(1, 2), to(9, 8), to(3, 4)),
		of(to(200, 300), to(-5, 5)),
		of(to(9, 8), to(256, 256), to(-1, -1)),
		of(to(math.MinInt, 0), to(255, math.MaxInt)),
	)
}

// P3.1: Formed, of what is formed and of what isn't.
func TestFormed(t *testing.T) {
	for _, l := range append(sets(), nil, of(), whole(), most(), of(to(0, 0)), of(to(255, 255)), of(to(1, 2), to(4, 4)), of(to(0, 0), to(2, 255)), of(to(0, 253), to(255, 255))) {
		if !span.Formed(l) {
			t.Error("is formed:", l)
		}
	}
	for _, l := range [][]api.Span{
		of(to(5, 4)), of(to(1, 2), to(3, 4)), of(to(0, 256)),
		of(to(-1, 0)), of(to(255, 256)), of(to(256, 256)), of(to(-1, -1)), of(to(255, 0)),
		of(to(math.MinInt, 0)), of(to(0, math.MaxInt)), of(to(math.MinInt, math.MinInt)), of(to(math.MaxInt, math.MaxInt)), of(to(math.MaxInt, math.MinInt)),
		of(to(1, 2), to(2, 3)), of(to(1, 2), to(1, 2)), of(to(1, 9), to(3, 4)), of(to(4, 5), to(1, 2)), of(to(0, 255), to(0, 255)),
		of(to(1, 2), to(4, 3)), of(to(1, 2), to(4, 256)), of(to(-2, -1), to(1, 2)), of(to(1, 2), to(5, 5), to(6, 9)), of(to(1, 2), to(8, 9), to(5, 6)),
		of(to(0, 253), to(254, 255)), of(to(0, 255), to(257, 257)), of(to(0, math.MaxInt), to(1, 2)), of(to(1, 2), to(math.MinInt, 9)),
		append(most(), to(255, 255)), append(most(), to(256, 256)), append(of(to(0, 0)), most()...),
	} {
		if span.Formed(l) {
			t.Error("isn't formed:", l)
		}
	}
	if len(most()) != api.MaxSpans {
		t.Error(len(most()))
	}
}

// P3.1: Formed of all short lists: as said of each span and each two, and just the list of its objects' runs.
func TestFormedOfAnyList(t *testing.T) {
	seen := [2]int{}
	for _, l := range anyLists(3) {
		want := isFormed(l)
		if want != slices.Equal(l, formed(func(o int) bool { return isIn(l, o) })) {
			t.Fatal("the test's own words differ:", l)
		}
		if span.Formed(l) != want {
			t.Fatal(l, "formed:", !want)
		}
		if want {
			seen[1]++
		} else {
			seen[0]++
		}
	}
	if seen[0] == 0 || seen[1] < 20 {
		t.Error(seen)
	}
}

// numbers: objects, and what isn't one, up to the ends of what an int can be.
func numbers() []int {
	list := []int{math.MinInt, math.MinInt + 1, -256, -2, -1, 256, 257, 511, 512, math.MaxInt - 1, math.MaxInt, 1 << 32, 1<<32 + 3}
	for o := range 256 {
		list = append(list, o)
	}
	return list
}

// P3.1: Has: only objects are in, in any list.
func TestHas(t *testing.T) {
	l := of(to(1, 3), to(7, 7))
	for o, want := range map[int]bool{0: false, 1: true, 2: true, 3: true, 4: false, 6: false, 7: true, 8: false, 255: false, -1: false, 256: false, 257: false, 263: false} {
		if span.Has(l, o) != want {
			t.Error(o, "in:", !want)
		}
	}
	for _, l := range append(anyLists(2), someLists()...) {
		for _, o := range numbers() {
			if span.Has(l, o) != isIn(l, o) {
				t.Fatal(o, "in", l, !isIn(l, o))
			}
		}
	}
	for _, o := range numbers() {
		if everything := of(to(math.MinInt, math.MaxInt)); span.Has(everything, o) != (o >= 0 && o <= 255) {
			t.Error(o)
		}
	}
}

// objects: what a range over All goes over.
func objects(l []api.Span) []int {
	var list []int
	for o := range span.All(l) {
		list = append(list, o)
	}
	return list
}

// P3.1: Size, All and Join of one list, of all short lists: each object counts once, rising.
func TestOfAnyList(t *testing.T) {
	for _, l := range append(append(anyLists(3), someLists()...), sets()...) {
		want := objectsIn(l)
		if got := span.Size(l); got != len(want) {
			t.Fatal("size of", l, got)
		}
		if got := objects(l); !slices.Equal(got, want) {
			t.Fatal("all of", l, got)
		}
		if got := span.Join(l); !slices.Equal(got, formed(func(o int) bool { return isIn(l, o) })) {
			t.Fatal("join of", l, got)
		}
	}
	for _, c := range []struct {
		l    []api.Span
		size int
	}{{nil, 0}, {of(), 0}, {whole(), 256}, {most(), 128}, {of(to(0, 0)), 1}, {of(to(255, 255)), 1}, {of(to(1, 3), to(7, 7)), 4}, {of(to(-5, 500), to(0, 9)), 256}, {of(to(5, 4)), 0}} {
		if got := span.Size(c.l); got != c.size {
			t.Error("size of", c.l, got)
		}
	}
}

// P3.1: Of takes the objects among any numbers, in any order, each any number of times.
func TestOf(t *testing.T) {
	for _, c := range []struct {
		objects []int
		want    []api.Span
	}{
		{nil, nil},
		{[]int{}, nil},
		{[]int{3, 1, 2, 7, 300}, of(to(1, 3), to(7, 7))},
		{[]int{0}, of(to(0, 0))},
		{[]int{255}, of(to(255, 255))},
		{[]int{255, 0}, of(to(0, 0), to(255, 255))},
		{[]int{254, 255, 256}, of(to(254, 255))},
		{[]int{-1, 0, 1}, of(to(0, 1))},
		{[]int{5, 5, 5}, of(to(5, 5))},
		{[]int{4, 2, 2, 4}, of(to(2, 2), to(4, 4))},
		{[]int{-1, 256, math.MinInt, math.MaxInt, math.MaxInt - 255, -256, 1 << 32}, nil},
		{numbers(), whole()},
	} {
		if got := span.Of(c.objects...); !slices.Equal(got, c.want) {
			t.Error("of", c.objects, got)
		}
	}
	for _, s := range sets() {
		some := objectsIn(s)
		for range len(some) + 1 {
			if got := span.Of(some...); !slices.Equal(got, s) {
				t.Fatal("of", some, got)
			}
			slices.Reverse(some)
			if len(some) > 1 {
				slices.Reverse(some[1:])
			}
		}
	}
}

// checkTwo: all calls of two lists against the document's words.
func checkTwo(t *testing.T, a, b []api.Span) {
	t.Helper()
	join := formed(func(o int) bool { return isIn(a, o) || isIn(b, o) })
	meet := formed(func(o int) bool { return isIn(a, o) && isIn(b, o) })
	less := formed(func(o int) bool { return isIn(a, o) && !isIn(b, o) })
	rest := formed(func(o int) bool { return !isIn(a, o) && isIn(b, o) })
	if got := span.Join(a, b); !slices.Equal(got, join) {
		t.Fatal("join of", a, b, got)
	}
	if got := span.Meet(a, b); !slices.Equal(got, meet) {
		t.Fatal("meet of", a, b, got)
	}
	if got := span.Less(a, b); !slices.Equal(got, less) {
		t.Fatal("less of", a, b, got)
	}
	if got := span.Covers(a, b); got != (len(rest) == 0) {
		t.Fatal("covers:", a, b, got)
	}
	if got := span.Touch(a, b); got != (len(meet) > 0) {
		t.Fatal("touch:", a, b, got)
	}
}

// P3.1: Join, Meet, Less, Covers and Touch of every two lists: formed or not, and of sets of a small world.
func TestOfTwo(t *testing.T) {
	lists := someLists()
	for _, a := range lists {
		for _, b := range lists {
			checkTwo(t, a, b)
		}
		for _, b := range anyLists(2) {
			checkTwo(t, a, b)
			checkTwo(t, b, a)
		}
	}
	world := sets()
	for i, a := range world {
		for j := 0; j < len(world); j += 1 + i%5 {
			checkTwo(t, a, world[j])
		}
	}
}

// P3.1: the document's examples, and the edges of what covers and what touches.
func TestExamples(t *testing.T) {
	a := span.Of(3, 1, 2, 7, 300)
	if !slices.Equal(a, of(to(1, 3), to(7, 7))) {
		t.Error(a)
	}
	if got := span.Less(a, of(to(2, 2))); !slices.Equal(got, of(to(1, 1), to(3, 3), to(7, 7))) {
		t.Error(got)
	}
	if got := span.Join(a, of(to(4, 6))); !slices.Equal(got, of(to(1, 7))) {
		t.Error(got)
	}
	for _, c := range []struct {
		a, b          []api.Span
		covers, touch bool
	}{
		{nil, nil, true, false},
		{a, nil, true, false},
		{nil, a, false, false},
		{nil, of(to(256, 300), to(4, 3)), true, false},
		{a, a, true, true},
		{whole(), most(), true, true},
		{most(), whole(), false, true},
		{of(to(1, 3)), of(to(4, 6)), false, false},
		{of(to(1, 3)), of(to(3, 6)), false, true},
		{of(to(4, 6), to(1, 3)), of(to(2, 5)), true, true},
		{of(to(4, 6), to(1, 3)), of(to(2, 7)), false, true},
		{of(to(0, 1), to(255, 255)), of(to(math.MinInt, 1), to(255, math.MaxInt)), true, true},
		{of(to(256, math.MaxInt)), of(to(256, math.MaxInt)), true, false},
	} {
		if span.Covers(c.a, c.b) != c.covers || span.Touch(c.a, c.b) != c.touch {
			t.Error(c.a, c.b, "covers:", !c.covers, "or touch:", !c.touch)
		}
	}
}

// P3.1: Join of no list, of one, of many in any order.
func TestJoinOfMany(t *testing.T) {
	for _, none := range [][][]api.Span{nil, {}, {nil}, {nil, of(), nil}} {
		if got := span.Join(none...); len(got) != 0 {
			t.Error("join of", none, got)
		}
	}
	lists := someLists()
	for i, a := range lists {
		for j, b := range lists {
			c := lists[(3*i+5*j)%len(lists)]
			want := formed(func(o int) bool { return isIn(a, o) || isIn(b, o) || isIn(c, o) })
			for _, order := range [][][]api.Span{{a, b, c}, {a, c, b}, {b, a, c}, {b, c, a}, {c, a, b}, {c, b, a}, {a, b, nil, c, b}} {
				if got := span.Join(order...); !slices.Equal(got, want) {
					t.Fatal("join of", order, got)
				}
			}
		}
	}
	var single [][]api.Span
	for o := range 256 {
		single = append(single, of(to((o*37)%256, (o*37)%256)))
		if size := span.Size(span.Join(single...)); size != o+1 {
			t.Fatal(o, size)
		}
	}
	if got := span.Join(single...); !slices.Equal(got, whole()) {
		t.Error(got)
	}
}

// P3.2: what is taken away and joined again is what it was.
func TestTakenAwayAndJoinedAgain(t *testing.T) {
	world := append(sets(), whole(), most())
	for _, a := range world {
		for _, b := range world {
			less := span.Less(a, b)
			if got := span.Join(less, span.Meet(a, b)); !slices.Equal(got, a) {
				t.Fatal(a, b, got)
			}
			if span.Touch(less, b) || !span.Covers(a, less) {
				t.Fatal(a, b, less)
			}
			if got := span.Join(less, b); span.Covers(a, b) != slices.Equal(got, a) {
				t.Fatal(a, b, got)
			}
		}
	}
	for _, a := range someLists() {
		for _, b := range someLists() {
			if got := span.Join(span.Less(a, b), span.Meet(a, b)); !span.Formed(got) || !slices.Equal(got, span.Join(a)) {
				t.Fatal(a, b, got)
			}
		}
	}
}

// P3.2: a set and the rest have nothing together, and all in all.
func TestSetAndTheRest(t *testing.T) {
	for _, a := range append(append(sets(), someLists()...), anyLists(2)...) {
		rest := span.Less(whole(), a)
		if !span.Formed(rest) || span.Size(rest)+span.Size(a) != 256 {
			t.Fatal(a, rest)
		}
		if got := span.Meet(a, rest); len(got) != 0 || span.Touch(a, rest) || span.Touch(rest, a) {
			t.Fatal(a, rest, got)
		}
		if got := span.Join(a, rest); !slices.Equal(got, whole()) {
			t.Fatal(a, rest, got)
		}
		if got := span.Less(whole(), rest); !slices.Equal(got, span.Join(a)) {
			t.Fatal(a, rest, got)
		}
	}
}

// P3.1: a range over All may be left at any place, begun again, and gone through within itself.
func TestAllIsLeftAndBegunAgain(t *testing.T) {
	l := of(to(250, 300), to(3, 5), to(-7, 0), to(4, 9))
	want := objectsIn(l)
	all := span.All(l)
	for stop := range want {
		var got []int
		for o := range all {
			got = append(got, o)
			if o == want[stop] {
				break
			}
		}
		if !slices.Equal(got, want[:stop+1]) {
			t.Fatal("left at", stop, got)
		}
	}
	inner := 0
	for o := range all {
		for other := range all {
			inner++
			if other == o {
				break
			}
		}
	}
	if inner != len(want)*(len(want)+1)/2 {
		t.Error("within itself:", inner)
	}
	if got := slices.Collect(all); !slices.Equal(got, want) {
		t.Error("again:", got)
	}
	for o := range span.All(nil) {
		t.Error("of nothing:", o)
	}
}

// calls: all that is answered of two lists, sets alone.
func calls(a, b []api.Span) [][]api.Span {
	span.Formed(a)
	span.Has(a, 3)
	span.Size(a)
	span.Covers(a, b)
	span.Touch(a, b)
	return [][]api.Span{span.Join(a, b), span.Join(a), span.Join(a, nil), span.Meet(a, b), span.Meet(a, a), span.Less(a, b), span.Less(a, nil), span.Of(objects(a)...)}
}

// P1 (rule 5): what is handed in stays as it is, its spare room too.
func TestArgumentsStay(t *testing.T) {
	for _, first := range someLists() {
		room := append(slices.Clone(first), to(77, 70), to(-7, 0), to(9, 300))
		a := room[:len(first)]
		other := of(to(250, 256), to(9, 12), to(3, 4), to(5, 4), to(8, 8))
		b := other[:3]
		lists := [][]api.Span{a, b, nil}
		numbers := []int{9, 3, 300, 9, 4, -1, 2}
		wasRoom, wasOther, wasNumbers := slices.Clone(room), slices.Clone(other), slices.Clone(numbers)
		calls(a, b)
		calls(b, a)
		span.Join(lists[:2]...)
		span.Of(numbers[:5]...)
		if !slices.Equal(room, wasRoom) || !slices.Equal(other, wasOther) || !slices.Equal(numbers, wasNumbers) {
			t.Fatal("changed:", room, other, numbers)
		}
		if len(lists[0]) != len(a) || len(lists[1]) != len(b) || lists[2] != nil {
			t.Fatal("changed:", lists)
		}
	}
}

// P1 (rule 5): what is answered shares no memory with an argument, nor with another answer.
func TestAnswersAreNewMemory(t *testing.T) {
	for _, b := range [][]api.Span{nil, of(to(2, 8), to(20, 30)), of(to(1, 3), to(7, 7))} {
		a := of(to(1, 3), to(7, 7), to(9, 255))
		wasA, wasB := slices.Clone(a), slices.Clone(b)
		want, answers := calls(a, b), calls(a, b)
		for i, answer := range answers {
			answer = answer[:cap(answer)]
			for j := range answer {
				answer[j] = to(-1, -1)
			}
			if !slices.Equal(a, wasA) || !slices.Equal(b, wasB) {
				t.Fatal(i, "shares with an argument")
			}
			for k := i + 1; k < len(answers); k++ {
				if !slices.Equal(answers[k], want[k]) {
					t.Fatal(i, "shares with", k)
				}
			}
		}
		if again := calls(a, b); !slices.EqualFunc(again, want, slices.Equal) {
			t.Error("kept from call to call:", again)
		}
	}
}
