package vector_test

import (
	"maps"
	"math"
	"slices"
	"testing"

	"telltale/api"
	"telltale/vector"
)

func at(count, node int) api.Stamp { return api.Stamp{Count: count, Node: node} }

func of(list ...api.Stamp) []api.Stamp { return list }

func right(s api.Stamp) bool {
	return s.Count >= 1 && s.Node >= 0 && s.Node <= 63
}

// countIn: what the document says of a node's count, looked for word by word.
func countIn(v []api.Stamp, node int) int {
	for _, s := range v {
		if right(s) && s.Node == node {
			return s.Count
		}
	}
	return 0
}

// formed: the vector whose counts these are.
func formed(count func(node int) int) []api.Stamp {
	var v []api.Stamp
	for node := range 64 {
		if c := count(node); c > 0 {
			v = append(v, at(c, node))
		}
	}
	return v
}

// joined, met: the greatest and the least counts, word by word.
func joined(list ...[]api.Stamp) []api.Stamp {
	return formed(func(node int) int {
		most := 0
		for _, v := range list {
			most = max(most, countIn(v, node))
		}
		return most
	})
}

func met(list ...[]api.Stamp) []api.Stamp {
	if len(list) == 0 {
		return nil
	}
	return formed(func(node int) int {
		least := api.MaxCount
		for _, v := range list {
			least = min(least, countIn(v, node))
		}
		return least
	})
}

func covers(a, b []api.Stamp) bool {
	for node := range 64 {
		if countIn(b, node) > countIn(a, node) {
			return false
		}
	}
	return true
}

func compared(a, b []api.Stamp) int {
	over, under := covers(a, b), covers(b, a)
	if over && under {
		return 0
	}
	if under {
		return 1
	}
	if over {
		return 2
	}
	return 3
}

// pool: stamps, right and not, of which lists are made.
func pool() []api.Stamp {
	return of(
		at(1, 0), at(3, 0), at(api.MaxCount, 0), at(2, 5), at(2, 63), at(api.MaxCount-1, 63),
		at(0, 0), at(-1, 5), at(math.MinInt, 63), at(7, 64), at(7, -1), at(7, math.MaxInt), at(7, math.MinInt),
	)
}

// anyLists: all lists of up to so many stamps of the pool, in any order, any of them more than once.
func anyLists(most int) [][]api.Stamp {
	all := [][]api.Stamp{nil}
	for from := 0; len(all[from]) < most; from++ {
		for _, s := range pool() {
			all = append(all, append(slices.Clone(all[from]), s))
		}
	}
	return all
}

// vectors: all formed ones over three nodes and three counts.
func vectors() [][]api.Stamp {
	var all [][]api.Stamp
	counts := []int{0, 1, 2, api.MaxCount}
	for _, a := range counts {
		for _, b := range counts {
			for _, c := range counts {
				all = append(all, formed(func(node int) int {
					return map[int]int{0: a, 5: b, 63: c}[node]
				}))
			}
		}
	}
	return all
}

// someLists: vectors, and lists that aren't formed.
func someLists() [][]api.Stamp {
	return append(vectors(),
		of(at(2, 63), at(1, 0)),
		of(at(1, 0), at(3, 0)),
		of(at(3, 0), at(1, 0)),
		of(at(0, 0), at(3, 0), at(4, 0), at(0, 63)),
		of(at(-5, 5), at(5, 5), at(-6, 5)),
		of(at(7, 64), at(7, -1)),
		of(at(7, 64), at(1, 63), at(7, -1), at(2, 63)),
		of(at(math.MinInt, math.MinInt), at(api.MaxCount, math.MaxInt)),
		[]api.Stamp{},
	)
}

// full: all nodes, each with a count of its own.
func full() []api.Stamp {
	return formed(func(node int) int { return 1000 - node })
}

// P2.1: the numbers of how two stand.
func TestHowTwoStand(t *testing.T) {
	if vector.Same != 0 || vector.Before != 1 || vector.Behind != 2 || vector.Apart != 3 {
		t.Error(vector.Same, vector.Before, vector.Behind, vector.Apart)
	}
}

// P2.1: Formed, of what is formed and of what isn't.
func TestFormed(t *testing.T) {
	for _, v := range append(vectors(), nil, of(), full(), of(at(1, 0)), of(at(api.MaxCount, 63)), of(at(9, 1), at(9, 2), at(1, 3))) {
		if !vector.Formed(v) {
			t.Error("is formed:", v)
		}
	}
	for _, v := range [][]api.Stamp{
		of(at(0, 0)), of(at(-1, 3)), of(at(math.MinInt, 3)), of(at(1, 64)), of(at(1, -1)), of(at(1, math.MaxInt)), of(at(1, math.MinInt)),
		of(at(1, 3), at(1, 3)), of(at(1, 3), at(2, 3)), of(at(2, 3), at(1, 3)),
		of(at(1, 1), at(1, 0)), of(at(1, 0), at(1, 2), at(1, 1)), of(at(1, 5), at(1, 6), at(1, 5)),
		of(at(0, 0), at(1, 1)), of(at(1, 0), at(0, 1)), of(at(1, 0), at(0, 1), at(1, 2)), of(at(1, -1), at(1, 0)), of(at(1, 63), at(1, 64)),
		append(full(), at(1, 63)), append(full(), at(1, 64)), append(of(at(1, 0)), full()...),
	} {
		if vector.Formed(v) {
			t.Error("isn't formed:", v)
		}
	}
}

// P2.1: Formed of all short lists: right stamps by rising nodes, no more and no less.
func TestFormedOfAnyList(t *testing.T) {
	for _, v := range anyLists(3) {
		want := slices.Equal(v, formed(func(node int) int { return countIn(v, node) }))
		if vector.Formed(v) != want {
			t.Error(v, "formed:", !want)
		}
	}
}

// P2.1: Count goes by a node's first right stamp; a node that isn't one has none.
func TestCount(t *testing.T) {
	v := of(at(5, 0), at(2, 3))
	for node, want := range map[int]int{0: 5, 3: 2, 1: 0, 2: 0, 4: 0, 63: 0, 64: 0, -1: 0, math.MaxInt: 0, math.MinInt: 0} {
		if got := vector.Count(v, node); got != want {
			t.Errorf("of %d: %d", node, got)
		}
	}
	nodes := []int{math.MinInt, -64, -1, 0, 1, 5, 62, 63, 64, 128, math.MaxInt}
	for _, v := range append(anyLists(3), full(), append(full(), full()...)) {
		for _, node := range nodes {
			if got := vector.Count(v, node); got != countIn(v, node) {
				t.Fatalf("of %d in %v: %d", node, v, got)
			}
		}
	}
}

// P2.1: Has takes right stamps up to the count of their node.
func TestHas(t *testing.T) {
	v := of(at(5, 0), at(2, 3), at(api.MaxCount, 63))
	for s, want := range map[api.Stamp]bool{
		at(2, 3): true, at(1, 3): true, at(3, 3): false, at(api.MaxCount, 3): false,
		at(5, 0): true, at(6, 0): false, at(1, 1): false, at(api.MaxCount, 63): true, at(1, 63): true,
		at(0, 0): false, at(0, 1): false, at(-1, 0): false, at(math.MinInt, 0): false, at(math.MinInt, 1): false,
		at(1, 64): false, at(0, 64): false, at(1, -1): false, at(-1, -1): false, at(0, math.MinInt): false, at(0, math.MaxInt): false,
	} {
		if vector.Has(v, s) != want {
			t.Error(s, "had:", !want)
		}
	}
	for _, v := range anyLists(2) {
		for _, s := range append(pool(), at(4, 0), at(1, 5), at(3, 63), at(1, 1)) {
			want := right(s) && s.Count <= countIn(v, s.Node)
			if vector.Has(v, s) != want {
				t.Fatal(v, s, "had:", !want)
			}
		}
	}
}

// P2.1: Covers and Compare, of every two lists.
func TestCoversAndCompare(t *testing.T) {
	lists := append(someLists(), anyLists(2)...)
	seen := map[int]int{}
	for _, a := range lists {
		for _, b := range lists {
			if vector.Covers(a, b) != covers(a, b) {
				t.Fatal(a, b, "covers:", !covers(a, b))
			}
			how := vector.Compare(a, b)
			if how != compared(a, b) {
				t.Fatal(a, b, "compared:", how, "not", compared(a, b))
			}
			seen[how]++
		}
	}
	if len(seen) != 4 {
		t.Error("not all four were seen:", seen)
	}
}

// P2.1: the document's examples, and each node by itself.
func TestCompareExamples(t *testing.T) {
	v := of(at(5, 0), at(2, 3))
	for _, c := range []struct {
		a, b []api.Stamp
		want int
	}{
		{v, of(at(7, 3)), vector.Apart},
		{of(at(2, 3)), v, vector.Before},
		{v, of(at(2, 3)), vector.Behind},
		{v, of(at(2, 3), at(5, 0), at(9, 0)), vector.Same},
		{nil, nil, vector.Same},
		{nil, of(at(0, 3), at(7, 64)), vector.Same},
		{nil, v, vector.Before},
		{v, nil, vector.Behind},
	} {
		if got := vector.Compare(c.a, c.b); got != c.want {
			t.Error(c.a, c.b, got)
		}
	}
	for i := range full() {
		more := full()
		more[i].Count++
		if vector.Compare(full(), more) != vector.Before || vector.Compare(more, full()) != vector.Behind || vector.Covers(full(), more) || !vector.Covers(more, full()) {
			t.Error("node", i)
		}
	}
}

// P2.1: Join and Meet of no list, of one, and the document's examples.
func TestJoinAndMeetOfFew(t *testing.T) {
	v := of(at(5, 0), at(2, 3))
	for _, c := range []struct {
		lists      [][]api.Stamp
		join, meet []api.Stamp
	}{
		{nil, nil, nil},
		{[][]api.Stamp{}, nil, nil},
		{[][]api.Stamp{nil}, nil, nil},
		{[][]api.Stamp{v}, v, v},
		{[][]api.Stamp{v, v}, v, v},
		{[][]api.Stamp{v, nil}, v, nil},
		{[][]api.Stamp{nil, v}, v, nil},
		{[][]api.Stamp{v, of(at(7, 3))}, of(at(5, 0), at(7, 3)), of(at(2, 3))},
		{[][]api.Stamp{of(at(7, 3)), v}, of(at(5, 0), at(7, 3)), of(at(2, 3))},
		{[][]api.Stamp{full()}, full(), full()},
		{[][]api.Stamp{full(), v}, joined(full(), v), v},
		{[][]api.Stamp{v, of(at(api.MaxCount, 63), at(6, 0)), of(at(1, 1), at(4, 0))}, of(at(6, 0), at(1, 1), at(2, 3), at(api.MaxCount, 63)), of(at(4, 0))},
		{[][]api.Stamp{of(at(2, 63), at(0, 1), at(1, 0), at(9, 63), at(4, 64))}, of(at(1, 0), at(2, 63)), of(at(1, 0), at(2, 63))},
	} {
		if got := vector.Join(c.lists...); !slices.Equal(got, c.join) {
			t.Error("Join of", c.lists, got)
		}
		if got := vector.Meet(c.lists...); !slices.Equal(got, c.meet) {
			t.Error("Meet of", c.lists, got)
		}
	}
}

// P2.1: Join, Meet, Greatest and With of any list alone.
func TestOfAnyList(t *testing.T) {
	for _, v := range append(anyLists(3), full(), append(full(), full()...)) {
		want := formed(func(node int) int { return countIn(v, node) })
		if join, meet := vector.Join(v), vector.Meet(v); !slices.Equal(join, want) || !slices.Equal(meet, want) {
			t.Fatal(v, join, meet)
		}
		greatest := 0
		for _, s := range want {
			greatest = max(greatest, s.Count)
		}
		if got := vector.Greatest(v); got != greatest {
			t.Fatal(v, got)
		}
		for _, s := range append(pool(), at(1, 1), at(1, 62)) {
			if got := vector.With(v, s); !slices.Equal(got, joined(v, of(s))) {
				t.Fatal(v, s, got)
			}
		}
	}
	if got := vector.Greatest(of(at(3, 0), at(9, 5), at(4, 63))); got != 9 {
		t.Error("greatest:", got)
	}
}

// P2.1, P2.2: Join and Meet of every two, and of every three of some, in every order.
func TestJoinAndMeetOfMany(t *testing.T) {
	lists := someLists()
	for _, a := range lists {
		for _, b := range lists {
			join, meet := vector.Join(a, b), vector.Meet(a, b)
			if !slices.Equal(join, joined(a, b)) || !slices.Equal(meet, met(a, b)) {
				t.Fatal(a, b, join, meet)
			}
			if !slices.Equal(join, vector.Join(b, a)) || !slices.Equal(meet, vector.Meet(b, a)) || !slices.Equal(join, vector.Join(b, a, b)) || !slices.Equal(meet, vector.Meet(b, a, b)) {
				t.Fatal(a, b, "hangs on order")
			}
			for i := 0; i < len(lists); i += 5 {
				c := lists[i]
				join, meet := joined(a, b, c), met(a, b, c)
				for _, order := range [][][]api.Stamp{{a, b, c}, {a, c, b}, {b, a, c}, {b, c, a}, {c, a, b}, {c, b, a}} {
					if !slices.Equal(vector.Join(order...), join) || !slices.Equal(vector.Meet(order...), meet) {
						t.Fatal(order)
					}
				}
			}
		}
	}
}

// P2.2: Join is the least that covers all, Meet the greatest that all cover, held against all vectors.
func TestBounds(t *testing.T) {
	all := vectors()
	for i := range all {
		for j := 0; j < len(all); j += 3 {
			list := [][]api.Stamp{all[i], all[j], all[(i+2*j)%len(all)]}
			join, meet := vector.Join(list...), vector.Meet(list...)
			if !vector.Formed(join) || !vector.Formed(meet) {
				t.Fatal("not formed:", list, join, meet)
			}
			for _, w := range all {
				over, under := true, true
				for _, v := range list {
					over = over && vector.Covers(w, v)
					under = under && vector.Covers(v, w)
				}
				if vector.Covers(w, join) != over {
					t.Fatal("Join of", list, join, "and", w)
				}
				if vector.Covers(meet, w) != under {
					t.Fatal("Meet of", list, meet, "and", w)
				}
			}
		}
	}
}

// pairs: what a range goes over.
func pairs(v []api.Stamp) []api.Stamp {
	var got []api.Stamp
	for node, count := range vector.All(v) {
		got = append(got, at(count, node))
	}
	return got
}

// P2.1: All goes over the nodes with a count, rising, each with it.
func TestAll(t *testing.T) {
	for _, v := range append(anyLists(3), full(), append(full(), full()...)) {
		if got := pairs(v); !slices.Equal(got, formed(func(node int) int { return countIn(v, node) })) {
			t.Fatal(v, got)
		}
	}
}

// P2.1: a range over All may be left at any place, begun again, and gone through within itself.
func TestAllIsLeftAndBegunAgain(t *testing.T) {
	v := full()
	all := vector.All(v)
	for stop := range len(v) {
		var got []api.Stamp
		for node, count := range all {
			got = append(got, at(count, node))
			if node == stop {
				break
			}
		}
		if !slices.Equal(got, v[:stop+1]) {
			t.Fatal("left at", stop, got)
		}
	}
	inner := 0
	for node := range all {
		for other := range all {
			inner++
			if other == node {
				break
			}
		}
	}
	if inner != 64*65/2 {
		t.Error("within itself:", inner)
	}
	if got := maps.Collect(all); len(got) != 64 || got[0] != 1000 || got[63] != 937 {
		t.Error("again:", got)
	}
}

// calls: all that is answered of two lists and a stamp, lists alone.
func calls(a, b []api.Stamp, s api.Stamp) [][]api.Stamp {
	vector.Formed(a)
	vector.Count(a, s.Node)
	vector.Has(a, s)
	vector.Covers(a, b)
	vector.Compare(a, b)
	vector.Greatest(a)
	pairs(a)
	return [][]api.Stamp{vector.Join(a, b), vector.Join(a), vector.Meet(a, b), vector.Meet(a), vector.With(a, s), vector.Join(a, nil), vector.Meet(a, a)}
}

// P1 (rule 5): what is handed in stays as it is, its spare room too.
func TestArgumentsStay(t *testing.T) {
	for _, first := range someLists() {
		room := append(slices.Clone(first), at(77, 7), at(0, -7), at(78, 63))
		a := room[:len(first)]
		other := of(at(9, 63), at(4, 0), at(4, 0), at(1, 5), at(8, 8))
		b := other[:3]
		wasRoom, wasOther := slices.Clone(room), slices.Clone(other)
		lists := [][]api.Stamp{a, b, nil}
		calls(a, b, at(5, 5))
		vector.Join(lists[:2]...)
		vector.Meet(lists[:2]...)
		if !slices.Equal(room, wasRoom) || !slices.Equal(other, wasOther) {
			t.Fatal("changed:", room, other)
		}
		if len(lists[0]) != len(a) || len(lists[1]) != len(b) || lists[2] != nil {
			t.Fatal("changed:", lists)
		}
	}
}

// P1 (rule 5): what is answered shares no memory with an argument, nor with another answer.
func TestAnswersAreNewMemory(t *testing.T) {
	a, b := of(at(5, 0), at(2, 3)), of(at(6, 0), at(2, 3), at(8, 63))
	wasA, wasB := slices.Clone(a), slices.Clone(b)
	want := calls(a, b, at(9, 9))
	answers := calls(a, b, at(9, 9))
	for i, answer := range answers {
		answer = answer[:cap(answer)]
		for j := range answer {
			answer[j] = at(-1, -1)
		}
		if !slices.Equal(a, wasA) || !slices.Equal(b, wasB) {
			t.Fatal(i, "shares with an argument")
		}
		for k := i + 1; k < len(answers); k++ {
			if !slices.Equal(answers[k], want[k]) {
				t.Fatal(i, "shares with", k)
			}
		}
	}
	if again := calls(a, b, at(9, 9)); !slices.EqualFunc(again, want, slices.Equal) {
		t.Error("kept from call to call:", again)
	}
}
