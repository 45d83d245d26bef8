package stamp_test

import (
	"math"
	"regexp"
	"slices"
	"strconv"
	"strings"
	"testing"

	"telltale/api"
	"telltale/stamp"
)

func at(count, node int) api.Stamp { return api.Stamp{Count: count, Node: node} }

// rising: stamps, right and not, in their order, with those at the ends of what an int can be.
func rising() []api.Stamp {
	counts := []int{math.MinInt, math.MinInt + 1, -2, -1, 0, 1, 2, 8, 9, math.MaxInt - 1, math.MaxInt}
	nodes := []int{math.MinInt, -1, 0, 1, 2, 62, 63, 64, math.MaxInt}
	var list []api.Stamp
	for _, c := range counts {
		for _, n := range nodes {
			list = append(list, at(c, n))
		}
	}
	return list
}

// P1.1: Right.
func TestRight(t *testing.T) {
	counts := map[int]bool{math.MinInt: false, -1: false, 0: false, 1: true, 2: true, 8: true, api.MaxCount - 1: true, api.MaxCount: true}
	nodes := map[int]bool{math.MinInt: false, -1: false, 0: true, 1: true, 62: true, 63: true, 64: false, 256: false, math.MaxInt: false}
	for c, rightCount := range counts {
		for n, rightNode := range nodes {
			if got := stamp.Right(at(c, n)); got != (rightCount && rightNode) {
				t.Errorf("Right(%d@%d): %v", c, n, got)
			}
		}
	}
}

// P1.1, P1.3: Compare is an order of all stamps, by Count and then by Node.
func TestCompareIsAnOrder(t *testing.T) {
	list := rising()
	for i, a := range list {
		for j, b := range list {
			want := 0
			if i < j {
				want = -1
			} else if i > j {
				want = 1
			}
			if got := stamp.Compare(a, b); got != want {
				t.Errorf("Compare(%v, %v): %d, not %d", a, b, got, want)
			}
		}
	}
}

// P1.1: Next, its edges, and which error comes first.
func TestNext(t *testing.T) {
	cases := []struct {
		count, node, skip int
		want              api.Stamp
		e                 api.Errno
	}{
		{7, 2, 0, at(8, 2), api.OK},
		{7, 2, 5, at(13, 2), api.OK},
		{0, 0, 0, at(1, 0), api.OK},
		{0, 63, 0, at(1, 63), api.OK},
		{7, 64, 0, at(0, 0), api.ErrArg},
		{7, -1, 0, at(0, 0), api.ErrArg},
		{7, math.MaxInt, 0, at(0, 0), api.ErrArg},
		{7, math.MinInt, 0, at(0, 0), api.ErrArg},
		{-1, 0, 0, at(0, 0), api.ErrArg},
		{-1, 0, 1, at(0, 0), api.ErrArg},
		{math.MinInt, 0, math.MaxInt, at(0, 0), api.ErrArg},
		{7, 0, -1, at(0, 0), api.ErrArg},
		{7, 0, math.MinInt, at(0, 0), api.ErrArg},
		{api.MaxCount, 0, -1, at(0, 0), api.ErrArg},
		{api.MaxCount, 64, 0, at(0, 0), api.ErrArg},
		{-1, 0, api.MaxCount, at(0, 0), api.ErrArg},
		{api.MaxCount, 0, 0, at(0, 0), api.ErrOverflow},
		{api.MaxCount - 1, 5, 0, at(api.MaxCount, 5), api.OK},
		{api.MaxCount - 1, 5, 1, at(0, 0), api.ErrOverflow},
		{0, 5, api.MaxCount - 1, at(api.MaxCount, 5), api.OK},
		{0, 5, api.MaxCount, at(0, 0), api.ErrOverflow},
		{5, 0, api.MaxCount - 6, at(api.MaxCount, 0), api.OK},
		{5, 0, api.MaxCount - 5, at(0, 0), api.ErrOverflow},
		{api.MaxCount, 63, api.MaxCount, at(0, 0), api.ErrOverflow},
	}
	for _, c := range cases {
		if got, e := stamp.Next(c.count, c.node, c.skip); got != c.want || e != c.e {
			t.Errorf("Next(%d, %d, %d): %v, %d", c.count, c.node, c.skip, got, e)
		}
	}
}

// P1.3: the next one is right, and behind all stamps of counts up to the one it was made from.
func TestNextComesBehind(t *testing.T) {
	for _, count := range []int{0, 1, 7, 1 << 31, 1 << 53, api.MaxCount - 2, api.MaxCount - 1} {
		for node := range api.MaxNodes {
			for _, skip := range []int{0, 1, 1000} {
				s, e := stamp.Next(count, node, skip)
				if e == api.ErrOverflow && skip > api.MaxCount-1-count {
					continue
				}
				if e != api.OK || !stamp.Right(s) {
					t.Fatalf("Next(%d, %d, %d): %v, %d", count, node, skip, s, e)
				}
				for _, n := range []int{0, 63, math.MaxInt} {
					if stamp.Compare(s, at(count, n)) != 1 || stamp.Compare(s, at(count/2, n)) != 1 {
						t.Errorf("Next(%d, %d, %d): %v isn't behind node %d's", count, node, skip, s, n)
					}
				}
			}
		}
	}
}

// P1.1: Newest of none, of one, of many in any order, right or not.
func TestNewest(t *testing.T) {
	if s, ok := stamp.Newest(); ok || s != at(0, 0) {
		t.Error("of none:", s, ok)
	}
	if s, ok := stamp.Newest([]api.Stamp{}...); ok || s != at(0, 0) {
		t.Error("of an empty list:", s, ok)
	}
	list := rising()
	for _, a := range list {
		if s, ok := stamp.Newest(a); !ok || s != a {
			t.Error("of one:", a, s, ok)
		}
	}
	for i := range list {
		some := list[:i+1]
		back := slices.Clone(some)
		slices.Reverse(back)
		turned := append(slices.Clone(some[i/2:]), some[:i/2]...)
		for _, l := range [][]api.Stamp{some, back, turned, append(turned, turned...)} {
			if s, ok := stamp.Newest(l...); !ok || s != list[i] {
				t.Error("of", i+1, s, ok, "not", list[i])
			}
		}
	}
}

// P1 (rule 5): what is handed in stays, its spare room too.
func TestNewestLeavesTheList(t *testing.T) {
	room := []api.Stamp{at(3, 1), at(9, 2), at(1, 1), at(7, 7)}
	was := slices.Clone(room)
	if s, ok := stamp.Newest(room[:3]...); !ok || s != at(9, 2) {
		t.Error(s, ok)
	}
	if !slices.Equal(room, was) {
		t.Error("changed:", room)
	}
}

// P1.1: Show; of one that isn't right nothing is shown.
func TestShow(t *testing.T) {
	for s, want := range map[api.Stamp]string{
		at(8, 2):             "8@2",
		at(1, 0):             "1@0",
		at(100, 10):          "100@10",
		at(api.MaxCount, 63): "9223372036854775807@63",
	} {
		if got, e := stamp.Show(s); got != want || e != api.OK {
			t.Errorf("Show(%v): %q, %d", s, got, e)
		}
	}
	for _, s := range rising() {
		if got, e := stamp.Show(s); !stamp.Right(s) && (got != "" || e != api.ErrArg) {
			t.Errorf("Show(%v): %q, %d", s, got, e)
		}
	}
}

// P1.1: Parse takes just the texts of right stamps.
func TestParse(t *testing.T) {
	for text, want := range map[string]api.Stamp{
		"8@2":                    at(8, 2),
		"1@0":                    at(1, 0),
		"10@63":                  at(10, 63),
		"9223372036854775807@63": at(api.MaxCount, 63),
	} {
		if got, e := stamp.Parse(text); got != want || e != api.OK {
			t.Errorf("Parse(%q): %v, %d", text, got, e)
		}
	}
	wrong := []string{
		"", "@", "8", "8@", "@2", "8 2", "8@2@", "8@2@3", "@8@2", "8@@2",
		"08@2", "00@0", "8@02", "8@00", "0@1", "0@0", "8@64", "8@100", "8@-1", "8@-0", "-8@2", "+8@2", "8@+2",
		" 8@2", "8@2 ", "8 @2", "8@ 2", "8@2\n", "8@2\x00", "\x008@2", "\xff@2", "8@\xff",
		"1_0@2", "8@1_0", "0x8@2", "8@0x2", "8.0@2", "8e1@2", "a@2", "8@a", "٨@2", "８@2", "8＠2",
		"9223372036854775808@0", "18446744073709551617@0", "99999999999999999999999@0",
		"1@18446744073709551616", "1@9223372036854775808", "1@4294967296",
		strings.Repeat("9", 1000) + "@0", "1@" + strings.Repeat("0", 1000), strings.Repeat("@", 1000),
	}
	for _, text := range wrong {
		if got, e := stamp.Parse(text); got != at(0, 0) || e != api.ErrText {
			t.Errorf("Parse(%q): %v, %d", text, got, e)
		}
	}
}

// P1.2: a stamp that is shown is parsed again.
func TestShownIsParsed(t *testing.T) {
	counts := []int{api.MaxCount - 1, api.MaxCount}
	for c := 1; c <= api.MaxCount/10; c *= 10 {
		counts = append(counts, c, 10*c-1)
	}
	for bit := range 62 {
		counts = append(counts, 1<<bit, 1<<(bit+1)-1)
	}
	for _, c := range counts {
		for n := range api.MaxNodes {
			text, e := stamp.Show(at(c, n))
			if e != api.OK {
				t.Fatal(c, n, e)
			}
			if s, e := stamp.Parse(text); e != api.OK || s != at(c, n) {
				t.Errorf("%d@%d is %q, parsed %v, %d", c, n, text, s, e)
			}
		}
	}
}

// P1.1, P1.2: all short texts of some letters; a text that is parsed is shown again, and no other one is parsed.
func TestParsedIsShown(t *testing.T) {
	shape := regexp.MustCompile(`^[1-9][0-9]*@(0|[1-9][0-9]?)$`)
	texts := []string{""}
	parsed := 0
	for from := 0; len(texts[from]) <= 5; from++ {
		text := texts[from]
		for _, letter := range []string{"0", "1", "3", "6", "@", "+", "-", " "} {
			texts = append(texts, text+letter)
		}
		want := shape.MatchString(text)
		if want {
			node, _ := strconv.Atoi(text[strings.Index(text, "@")+1:])
			want = node < api.MaxNodes
		}
		s, e := stamp.Parse(text)
		if want != (e == api.OK) || !want && (e != api.ErrText || s != at(0, 0)) {
			t.Fatalf("Parse(%q): %v, %d", text, s, e)
		}
		if !want {
			continue
		}
		parsed++
		if again, e := stamp.Show(s); e != api.OK || again != text {
			t.Fatalf("%q is %v, shown %q, %d", text, s, again, e)
		}
	}
	if parsed == 0 {
		t.Error("none was parsed")
	}
}
