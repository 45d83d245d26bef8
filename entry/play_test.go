package entry_test

import (
	"math"
	"math/rand"
	"slices"
	"testing"

	"telltale/api"
	"telltale/entry"
	"telltale/note"
	"telltale/view"
)

// checkPlay: what comes of an entry, against the document's words and P14.3.
func checkPlay(t *testing.T, v api.View, l []api.Sub, x api.Entry) (api.View, []api.Sub, api.Errno) {
	t.Helper()
	wantV, wantL, wantE := wordPlay(v, l, x)
	gotV, gotL, e := entry.Play(v, l, x)
	if !same(gotV, wantV) || !same(gotL, wantL) || e != wantE {
		t.Fatal(v, l, "play of", x, gotV, gotL, e, "asked for:", wantV, wantL, wantE)
	}
	if e != api.OK {
		return v, l, e
	}
	if !view.Formed(gotV) || !wordRest(gotL) {
		t.Fatal(v, l, "play of", x, "isn't formed, or not at rest:", gotV, gotL)
	}
	return gotV, gotL, e
}

// checkpoint: what was played is formed and at rest, and so its checkpoint; through its bytes, and played upon anything, it is that again.
func checkpoint(t *testing.T, v api.View, l []api.Sub) api.Entry {
	t.Helper()
	x := api.Entry{Kind: 5, View: v, Subs: l}
	b, e := entry.Encode(x)
	if e != api.OK || !entry.Formed(x) {
		t.Fatal(v, l, "no checkpoint:", e)
	}
	if x, e = entry.Decode(b); e != api.OK {
		t.Fatal(v, l, "no checkpoint's bytes:", e)
	}
	for _, upon := range []api.View{{}, someView()} {
		for _, others := range [][]api.Sub{nil, manySubs(48, 16)} {
			againV, againL, e := entry.Play(upon, others, x)
			if e != api.OK || !same(againV, v) || !same(againL, l) {
				t.Fatal(v, l, "checkpoint, upon", upon, others, againV, againL, e)
			}
		}
	}
	return x
}

// P14.1, P14.3: entries formed and not, played upon views and subscriptions formed and not.
func TestPlay(t *testing.T) {
	resting, wrong, list := restingSubs(), wrongSubs(), someEntries()
	seen := map[api.Errno]int{}
	kinds := map[int]int{}
	for i, v := range append(someViews(), wrongViews()...) {
		for k, x := range list {
			l := resting[(i+k)%len(resting)]
			if (i+k)%13 == 0 {
				l = wrong[(i*7+k)%len(wrong)]
			}
			gotV, gotL, e := checkPlay(t, v, l, x)
			seen[e]++
			if e == api.OK {
				kinds[x.Kind]++
				if k%11 == 0 {
					checkpoint(t, gotV, gotL)
				}
			}
		}
	}
	for _, e := range []api.Errno{api.OK, api.ErrArg, api.ErrGap, api.ErrStale, api.ErrMany} {
		if seen[e] < 10 {
			t.Error(e, seen)
		}
	}
	if len(kinds) != 5 || len(seen) != 5 {
		t.Error(kinds, seen)
	}
}

// P14.1: all views with all subscriptions, right and wrong ones, and one entry of each kind.
func TestPlayUponAnything(t *testing.T) {
	one := vec(at(1, 0))
	list := []api.Entry{
		{Kind: 1}, {Kind: 1, Note: api.Note{End: one, Writes: row(put(3, 1, 0))}}, {Kind: 2, Body: body(3, 1, 0, "abc")}, {Kind: 3, Note: api.Note{End: one, Writes: row(put(3, 1, 0))}, Body: body(3, 1, 0, "x")},
		{Kind: 3, Note: api.Note{End: one, Writes: row(gone(3, 1, 0))}}, {Kind: 4, From: 2, Interest: set(to(1, 3))}, {Kind: 4, From: 2}, {Kind: 4, From: 64, Interest: set(to(1, 3))}, {Kind: 5}, {},
	}
	for _, v := range append(someViews(), wrongViews()...) {
		for _, l := range append(restingSubs(), wrongSubs()...) {
			for _, x := range list {
				gotV, gotL, e := checkPlay(t, v, l, x)
				if (!view.Formed(v) || !wordRest(l)) && e != api.ErrArg {
					t.Fatal(v, l, x, gotV, gotL, e)
				}
			}
		}
	}
}

// P14.1: what is played of an own write is what layer 13 makes of it.
func TestWritesArePlayed(t *testing.T) {
	played, stale := 0, 0
	for _, v := range append(someViews(), everyObject(2)) {
		for _, me := range []int{0, 1, 63} {
			for _, o := range []int{0, 3, 6, 21, 255} {
				for _, value := range []string{"", "hi", "too long for some"} {
					for _, isGone := range []bool{false, true} {
						if isGone && value != "" {
							continue
						}
						after, n, e := view.Write(v, me, o, o%2, []byte(value), isGone)
						if e == api.ErrStale {
							stale++
						}
						if e != api.OK {
							continue
						}
						played++
						x := api.Entry{Kind: 3, Note: n}
						if !isGone {
							x.Body = api.Body{Object: o, Stamp: n.Writes[0].Stamp, Value: []byte(value)}
						}
						l := manySubs(me, 1)
						gotV, gotL, e := checkPlay(t, v, l, x)
						if e != api.OK || !same(gotV, after) || !same(gotL, l) {
							t.Fatal(v, "write", n, value, after, "played:", gotV, gotL, e)
						}
					}
				}
			}
		}
	}
	if played < 400 || stale == 0 {
		t.Error(played, stale)
	}
}

// P14.1: subscriptions of all nodes, new ones, other ones and ended ones, beside up to sixteen.
func TestSubscriptions(t *testing.T) {
	seen := map[api.Errno]int{}
	for _, n := range []int{0, 1, 2, 15, 16} {
		for _, first := range []int{0, 1, 30, 64 - n - 1, 64 - n} {
			if first+n > 64 {
				continue
			}
			l := manySubs(first, n)
			for from := range 64 {
				for _, interest := range [][]api.Span{nil, set(), set(to(9, 99)), evens()} {
					_, after, e := checkPlay(t, someView(), l, api.Entry{Kind: 4, From: from, Interest: interest})
					seen[e]++
					is := from >= first && from < first+n
					switch {
					case len(interest) == 0 && (e != api.OK || slices.ContainsFunc(after, func(s api.Sub) bool { return s.From == from })):
						t.Fatal(l, "ended", from, after, e)
					case len(interest) > 0 && (e == api.ErrMany) != (n == 16 && !is):
						t.Fatal(l, "with", from, after, e)
					}
				}
			}
		}
	}
	if seen[api.ErrMany] == 0 || seen[api.OK] == 0 || len(seen) != 2 {
		t.Error(seen)
	}
}

// P14.1: rows of subscriptions in a small world.
func TestRowsOfSubscriptions(t *testing.T) {
	var steps []api.Entry
	for _, from := range []int{0, 1, 63} {
		for _, interest := range [][]api.Span{nil, set(to(0, 0)), set(to(255, 255))} {
			steps = append(steps, api.Entry{Kind: 4, From: from, Interest: interest})
		}
	}
	for i := range 9 * 9 * 9 * 9 {
		var l []api.Sub
		var wanted [64][]api.Span
		for _, k := range []int{i % 9, i / 9 % 9, i / 81 % 9, i / 729} {
			x := steps[k]
			_, l, _ = checkPlay(t, api.View{}, l, x)
			wanted[x.From] = x.Interest
		}
		for node, interest := range wanted {
			at := slices.IndexFunc(l, func(s api.Sub) bool { return s.From == node })
			if at >= 0 != (len(interest) > 0) || at >= 0 && !slices.Equal(l[at].Interest, interest) {
				t.Fatal(i, l, node, interest)
			}
		}
	}
}

// maker: makes rows of entries as nodes may put them down, by a fixed row of numbers.
type maker struct {
	r *rand.Rand
	v api.View
	l []api.Sub
}

func (m *maker) object() int { return []int{0, 1, 2, 3, 200, 255}[m.r.Intn(6)] }

func (m *maker) interest() []api.Span {
	return [][]api.Span{nil, set(to(0, 2)), set(to(1, 3), to(200, 255)), set(to(0, 255)), evens()}[m.r.Intn(5)]
}

func (m *maker) value() []byte { return counted([]int{0, 1, 2, 9, 40}[m.r.Intn(5)]) }

// write: an own one.
func (m *maker) write() api.Entry {
	o, isGone, value := m.object(), m.r.Intn(4) == 0, m.value()
	if isGone {
		value = nil
	}
	_, n, e := view.Write(m.v, m.r.Intn(2), o, m.r.Intn(2), value, isGone)
	if e != api.OK {
		return api.Entry{Kind: 1}
	}
	x := api.Entry{Kind: 3, Note: n}
	if !isGone {
		x.Body = api.Body{Object: o, Stamp: n.Writes[0].Stamp, Value: value}
	}
	return x
}

// told: a note of others, that may lean on more than is known, or on less.
func (m *maker) told() api.Entry {
	known := slices.Clone(m.v.Known)
	if len(known) > 0 {
		s := &known[m.r.Intn(len(known))]
		s.Count = max(1, s.Count+m.r.Intn(4)-2)
	}
	n, e := note.Of(known, api.Write{Stamp: at(1+m.r.Intn(60), 2+m.r.Intn(2)), Object: m.object(), Gone: m.r.Intn(4) == 0})
	if e == api.OK && m.r.Intn(2) == 0 {
		n, e = note.Through(n, m.interest())
	}
	if e != api.OK {
		return api.Entry{Kind: 1}
	}
	return api.Entry{Kind: 1, Note: n}
}

// came: a body of what is held, or of what isn't.
func (m *maker) came() api.Entry {
	x := api.Body{Object: m.object(), Stamp: at(1+m.r.Intn(5), m.r.Intn(3)), Value: m.value()}
	if len(m.v.Held) > 0 && m.r.Intn(3) > 0 {
		w := m.v.Held[m.r.Intn(len(m.v.Held))]
		x.Object, x.Stamp = w.Object, w.Stamp
	}
	return api.Entry{Kind: 2, Body: x}
}

// next: the next entry.
func (m *maker) next() api.Entry {
	switch m.r.Intn(12) {
	case 0, 1, 2:
		return m.write()
	case 3, 4, 5:
		return m.told()
	case 6, 7:
		return m.came()
	case 8, 9, 10:
		return api.Entry{Kind: 4, From: m.r.Intn(40), Interest: m.interest()}
	}
	return api.Entry{Kind: 5, View: m.v, Subs: m.l}
}

// P14.3: rows of entries, played through their bytes; a checkpoint anywhere, and all that is played behind it.
func TestRows(t *testing.T) {
	seen := map[api.Errno]int{}
	for seed := range int64(60) {
		m := &maker{r: rand.New(rand.NewSource(seed)), v: api.View{Room: []int{0, 30, 1 << 24}[seed%3]}}
		other, others := someView(), manySubs(3, 9)
		at := 5 + m.r.Intn(80)
		for i := range 120 {
			x := m.next()
			b, e := entry.Encode(x)
			if e != api.OK {
				t.Fatal(seed, i, x, e)
			}
			if x, e = entry.Decode(b); e != api.OK {
				t.Fatal(seed, i, x, e)
			}
			m.v, m.l, e = checkPlay(t, m.v, m.l, x)
			seen[e]++
			if i == at {
				other, others, _ = entry.Play(other, others, checkpoint(t, m.v, m.l))
			}
			if i > at {
				otherV, otherL, otherE := entry.Play(other, others, x)
				if otherE != e {
					t.Fatal(seed, i, x, "behind a checkpoint:", otherE, e)
				}
				if e == api.OK {
					other, others = otherV, otherL
				}
			}
			if i >= at && (!same(other, m.v) || !same(others, m.l)) {
				t.Fatal(seed, i, x, "behind a checkpoint:", other, others, m.v, m.l)
			}
		}
	}
	for _, e := range []api.Errno{api.OK, api.ErrGap, api.ErrStale, api.ErrMany} {
		if seen[e] < 20 {
			t.Error(e, seen)
		}
	}
	if seen[api.OK] < 3000 || len(seen) != 4 {
		t.Error(seen)
	}
}

// P14.1, P14.3: what comes of entries, told by hand.
func TestPlayByHand(t *testing.T) {
	one, two := vec(at(1, 0)), vec(at(2, 0))
	v := api.View{Known: one, Held: row(put(3, 1, 0)), Bodies: bodies(body(3, 1, 0, "a")), Room: 3}
	blurred := api.View{Known: vec(at(1, 0), at(5, 1)), Zones: zones(upTo(3, 3, at(1, 0))), Room: 3}
	few := subs(of(2, to(1, 3)), of(5, to(7, 7)))
	write := func(start []api.Stamp, w api.Write, value string) api.Entry {
		n, _ := note.Of(start, w)
		x := api.Entry{Kind: 3, Note: n}
		if !w.Gone {
			x.Body = api.Body{Object: w.Object, Stamp: w.Stamp, Value: []byte(value)}
		}
		return x
	}
	sub := func(from int, interest ...api.Span) api.Entry {
		return api.Entry{Kind: 4, From: from, Interest: interest}
	}
	nothing := api.View{}
	for _, c := range []struct {
		why    string
		v      api.View
		l      []api.Sub
		x      api.Entry
		after  api.View
		behind []api.Sub
		e      api.Errno
	}{
		{"the chapter's subscription", nothing, nil, sub(2, to(1, 3)), nothing, subs(of(2, to(1, 3))), api.OK},
		{"the chapter's end of it", nothing, subs(of(2, to(1, 3))), sub(2), nothing, nil, api.OK},
		{"the end of none", v, few, sub(3), v, few, api.OK},
		{"another interest", v, few, sub(5, to(9, 9)), v, subs(of(2, to(1, 3)), of(5, to(9, 9))), api.OK},
		{"one between", v, few, sub(3, to(9, 9)), v, subs(of(2, to(1, 3)), of(3, to(9, 9)), of(5, to(7, 7))), api.OK},
		{"one ahead", v, few, sub(0, to(9, 9)), v, subs(of(0, to(9, 9)), of(2, to(1, 3)), of(5, to(7, 7))), api.OK},
		{"one behind", v, few, sub(63, to(9, 9)), v, subs(of(2, to(1, 3)), of(5, to(7, 7)), of(63, to(9, 9))), api.OK},
		{"the sixteenth", v, manySubs(0, 15), sub(15, to(15, 18)), v, manySubs(0, 16), api.OK},
		{"one more than sixteen", v, manySubs(0, 16), sub(16, to(0, 0)), nothing, nil, api.ErrMany},
		{"another one of sixteen", v, manySubs(0, 16), sub(15, to(0, 0)), v, append(manySubs(0, 15), of(15, to(0, 0))), api.OK},
		{"the end of one of sixteen", v, manySubs(0, 16), sub(15), v, manySubs(0, 15), api.OK},
		{"the end of none, beside sixteen", v, manySubs(0, 16), sub(16), v, manySubs(0, 16), api.OK},
		{"a note", v, few, api.Entry{Kind: 1, Note: api.Note{Start: one, End: two, Writes: row(put(4, 2, 0))}}, api.View{Known: two, Held: row(put(3, 1, 0), put(4, 2, 0)), Bodies: v.Bodies, Room: 3}, few, api.OK},
		{"a note that takes a body", v, few, api.Entry{Kind: 1, Note: api.Note{Start: one, End: two, Writes: row(put(3, 2, 0))}}, api.View{Known: two, Held: row(put(3, 2, 0)), Room: 3}, few, api.OK},
		{"a note that leans on more", v, few, api.Entry{Kind: 1, Note: api.Note{Start: two, End: two}}, nothing, nil, api.ErrGap},
		{"a body", v, few, api.Entry{Kind: 2, Body: body(3, 1, 0, "abc")}, api.View{Known: one, Held: v.Held, Bodies: bodies(body(3, 1, 0, "abc")), Room: 3}, few, api.OK},
		{"a body without room", v, few, api.Entry{Kind: 2, Body: body(3, 1, 0, "abcd")}, api.View{Known: one, Held: v.Held, Room: 3}, few, api.OK},
		{"a body of what isn't held", v, few, api.Entry{Kind: 2, Body: body(4, 1, 0, "")}, nothing, nil, api.ErrStale},
		{"a write", v, few, write(one, put(4, 2, 0), "bc"), api.View{Known: two, Held: row(put(3, 1, 0), put(4, 2, 0)), Bodies: bodies(body(3, 1, 0, "a"), body(4, 2, 0, "bc")), Room: 3}, few, api.OK},
		{"a write that pushes a body out", v, few, write(one, put(4, 2, 0), "bcd"), api.View{Known: two, Held: row(put(3, 1, 0), put(4, 2, 0)), Bodies: bodies(body(4, 2, 0, "bcd")), Room: 3}, few, api.OK},
		{"a deletion", v, few, write(one, gone(3, 2, 0), ""), api.View{Known: two, Held: row(gone(3, 2, 0)), Room: 3}, few, api.OK},
		{"a write that leans on more", v, few, write(two, put(4, 3, 0), "x"), nothing, nil, api.ErrGap},
		{"a write to what is blurred", blurred, few, write(blurred.Known, put(3, 6, 1), "x"), nothing, nil, api.ErrStale},
		{"a deletion of what is blurred", blurred, few, write(blurred.Known, gone(3, 6, 1), ""), api.View{Known: vec(at(1, 0), at(6, 1)), Zones: blurred.Zones, Room: 3}, few, api.OK},
		{"a checkpoint", v, few, api.Entry{Kind: 5, View: blurred, Subs: manySubs(0, 16)}, blurred, manySubs(0, 16), api.OK},
		{"a checkpoint of nothing", v, few, api.Entry{Kind: 5}, nothing, nil, api.OK},
		{"a wrong view, and a gap", api.View{Room: -1}, few, api.Entry{Kind: 1, Note: api.Note{Start: two, End: two}}, nothing, nil, api.ErrArg},
		{"a wrong view, and too many", api.View{Room: -1}, manySubs(0, 16), sub(16, to(0, 0)), nothing, nil, api.ErrArg},
		{"wrong subscriptions, and a gap", v, manySubs(0, 17), api.Entry{Kind: 1, Note: api.Note{Start: two, End: two}}, nothing, nil, api.ErrArg},
		{"wrong subscriptions, and a checkpoint", v, manySubs(0, 17), api.Entry{Kind: 5}, nothing, nil, api.ErrArg},
		{"one in a session", v, subs(api.Sub{From: 2, Interest: set(to(1, 3)), Session: 1}), sub(2), nothing, nil, api.ErrArg},
		{"a wrong view, and a checkpoint", api.View{Room: -1}, few, api.Entry{Kind: 5}, nothing, nil, api.ErrArg},
		{"a wrong entry, beside sixteen", v, manySubs(0, 16), sub(64, to(0, 0)), nothing, nil, api.ErrArg},
		{"no entry", v, few, api.Entry{}, nothing, nil, api.ErrArg},
	} {
		gotV, gotL, e := entry.Play(c.v, c.l, c.x)
		if e != c.e || !same(gotV, c.after) || !same(gotL, c.behind) {
			t.Error(c.why, gotV, gotL, e)
		}
		checkPlay(t, c.v, c.l, c.x)
	}
}

// P14.1 and P1 (rule 1): lists as long as they like end soon.
func TestLongLists(t *testing.T) {
	many, long := make([]api.Span, 1<<20), make([]api.Stamp, 1<<20)
	wide, held, there, all := make([]api.Zone, 1<<20), make([]api.Write, 1<<20), make([]api.Body, 1<<20), make([]api.Sub, 1<<20)
	for i := range many {
		many[i], long[i] = to(2*i, 2*i), at(1, i)
		wide[i], held[i], there[i], all[i] = upTo(i, i, at(1+i%2, 0)), put(i, 1, 0), body(i, 1, 0, ""), of(i, to(0, 0))
	}
	huge := api.Body{Object: 3, Stamp: at(1, 0), Value: make([]byte, 1<<26)}
	for _, x := range []api.Entry{
		{Kind: 1, Note: api.Note{Start: long, End: long}}, {Kind: 1, Note: api.Note{End: long}}, {Kind: 1, Note: api.Note{Blur: many}}, {Kind: 1, Note: api.Note{End: full(1), Writes: held}},
		{Kind: 2, Body: huge}, {Kind: 3, Note: api.Note{End: vec(at(1, 0)), Writes: held}}, {Kind: 3, Note: api.Note{End: vec(at(1, 0)), Writes: row(put(3, 1, 0))}, Body: huge},
		{Kind: 4, Interest: many}, {Kind: 5, View: api.View{Known: long, Zones: wide, Held: held, Bodies: there}}, {Kind: 5, View: api.View{Known: full(9), Zones: wide}}, {Kind: 5, View: api.View{Known: full(9), Held: held}},
		{Kind: 5, View: api.View{Known: full(9), Held: held[:256], Bodies: there}}, {Kind: 5, Subs: all}, {Kind: 5, Subs: subs(of(1, many...))}, {Kind: 1, Subs: all}, {Kind: 2, Interest: many}, {Kind: 4, View: api.View{Held: held}},
	} {
		if entry.Formed(x) {
			t.Error("long, and formed", x.Kind)
		}
		if b, e := entry.Encode(x); e != api.ErrArg || len(b) > 0 {
			t.Error(x.Kind, len(b), e)
		}
		if _, _, e := entry.Play(api.View{}, nil, x); e != api.ErrArg {
			t.Error(x.Kind, e)
		}
	}
	if _, _, e := entry.Play(api.View{}, all, api.Entry{Kind: 5}); e != api.ErrArg {
		t.Error(e)
	}
	if _, _, e := entry.Play(api.View{Known: long, Held: held}, nil, api.Entry{Kind: 5}); e != api.ErrArg {
		t.Error(e)
	}
	for _, ahead := range [][]byte{nil, {1}, {2}, {3}, {4}, {5}, {1, 0, 1, 0, 1, 0}, bytesOf(5, 1, 0, 9, math.MaxInt), bytesOf(5, 1, 0, 9, 0, 256), {5, 0, 0, 0, 0, 0}, {4, 2, 1, 1, 3}} {
		for _, x := range []byte{0, 1, 0x80, 0xff} {
			b := append(slices.Clone(ahead), make([]byte, 1<<24)...)
			for i := len(ahead); i < len(b); i++ {
				b[i] = x
			}
			if got, e := entry.Decode(b); e != api.ErrForm || !same(got, api.Entry{}) {
				t.Error(ahead, x, e)
			}
		}
	}
}
