package wire_test

import (
	"bytes"
	"encoding/binary"
	"math"
	"reflect"
	"slices"
	"testing"

	"telltale/api"
	"telltale/note"
	"telltale/span"
	"telltale/vector"
	"telltale/wire"
)

func at(count, node int) api.Stamp { return api.Stamp{Count: count, Node: node} }

func to(lo, hi int) api.Span { return api.Span{Lo: lo, Hi: hi} }

func vec(list ...api.Stamp) []api.Stamp { return list }

func set(list ...api.Span) []api.Span { return list }

func put(o, count, node int) api.Write { return api.Write{Stamp: at(count, node), Object: o} }

func gone(o, count, node int) api.Write {
	return api.Write{Stamp: at(count, node), Object: o, Gone: true}
}

func row(list ...api.Write) []api.Write { return list }

func body(o, count, node int, value []byte) api.Body {
	return api.Body{Object: o, Stamp: at(count, node), Value: value}
}

// counted: n bytes, each another one than those beside it.
func counted(n int) []byte {
	list := make([]byte, n)
	for i := range list {
		list[i] = byte(i*7 + 1)
	}
	return list
}

// What the document says of bytes: each thing as the numbers that it is made of, and a number's bytes by the library.

func numbersOfVector(v []api.Stamp) []int {
	list := []int{len(v)}
	for _, s := range v {
		list = append(list, s.Node, s.Count)
	}
	return list
}

func numbersOfSet(l []api.Span) []int {
	list := []int{len(l)}
	for _, s := range l {
		list = append(list, s.Lo, s.Hi)
	}
	return list
}

func numbersOfNote(n api.Note) []int {
	list := slices.Concat(numbersOfVector(n.Start), numbersOfVector(n.End), numbersOfSet(n.Blur), []int{len(n.Writes)})
	for _, w := range n.Writes {
		isGone := 0
		if w.Gone {
			isGone = 1
		}
		list = append(list, w.Object, w.Stamp.Node, w.Stamp.Count, isGone)
	}
	return list
}

func numbersOfBody(x api.Body) []int {
	list := []int{x.Object, x.Stamp.Node, x.Stamp.Count, len(x.Value)}
	for _, b := range x.Value {
		// A byte is laid as it is: told from a number by being below 0.
		list = append(list, -1-int(b))
	}
	return list
}

func numbersOfMsg(m api.Msg) []int {
	list := []int{m.Kind, m.From, m.To}
	switch m.Kind {
	case 1:
		return slices.Concat(list, []int{m.Session}, numbersOfSet(m.Interest), numbersOfVector(m.Vector))
	case 3:
		list = append(list, m.Session, m.Seq, len(m.Notes))
		for _, n := range m.Notes {
			list = append(list, numbersOfNote(n)...)
		}
	case 4:
		return append(list, m.Body.Object)
	case 5:
		return append(list, numbersOfBody(m.Body)...)
	}
	return list
}

// bytesOf: numbers one behind the other, as bytes.
func bytesOf(list []int) []byte {
	var b []byte
	for _, n := range list {
		if n < 0 {
			b = append(b, byte(-1-n))
		} else {
			b = binary.AppendUvarint(b, uint64(n))
		}
	}
	return b
}

// taker: what the document says of reading: numbers are taken from the front; of as few bytes as can be.
type taker struct {
	b   []byte
	bad bool
}

func (t *taker) number() int {
	n, size := binary.Uvarint(t.b)
	if size <= 0 || n > math.MaxInt64 || !bytes.Equal(binary.AppendUvarint(nil, n), t.b[:size]) {
		t.b, t.bad = nil, true
		return 0
	}
	t.b = t.b[size:]
	return int(n)
}

// times: a number, and so often what is to be done, as long as there are bytes.
func (t *taker) times(do func()) {
	for range t.number() {
		if t.bad {
			return
		}
		do()
	}
}

func (t *taker) vector() []api.Stamp {
	var v []api.Stamp
	t.times(func() {
		node := t.number()
		v = append(v, at(t.number(), node))
	})
	return v
}

func (t *taker) set() []api.Span {
	var l []api.Span
	t.times(func() {
		lo := t.number()
		l = append(l, to(lo, t.number()))
	})
	return l
}

func (t *taker) note() api.Note {
	n := api.Note{Start: t.vector()}
	n.End = t.vector()
	n.Blur = t.set()
	t.times(func() {
		o := t.number()
		node := t.number()
		w := put(o, t.number(), node)
		isGone := t.number()
		t.bad = t.bad || isGone > 1
		w.Gone = isGone == 1
		n.Writes = append(n.Writes, w)
	})
	return n
}

func (t *taker) body() api.Body {
	o := t.number()
	node := t.number()
	x := body(o, t.number(), node, nil)
	t.times(func() {
		if len(t.b) == 0 {
			t.bad = true
			return
		}
		x.Value = append(x.Value, t.b[0])
		t.b = t.b[1:]
	})
	return x
}

func (t *taker) msg() api.Msg {
	m := api.Msg{Kind: t.number()}
	m.From = t.number()
	m.To = t.number()
	switch m.Kind {
	case 1:
		m.Session = t.number()
		m.Interest = t.set()
		m.Vector = t.vector()
	case 3:
		m.Session = t.number()
		m.Seq = t.number()
		t.times(func() { m.Notes = append(m.Notes, t.note()) })
	case 4:
		m.Body.Object = t.number()
	case 5:
		m.Body = t.body()
	}
	return m
}

// isBody, isMsg: what the document asks of a body and of a message.
func isBody(x api.Body) bool {
	return x.Object >= 0 && x.Object <= 255 && x.Stamp.Count >= 1 && x.Stamp.Node >= 0 && x.Stamp.Node <= 63 && len(x.Value) <= 256
}

func isMsg(m api.Msg) bool {
	if m.From < 0 || m.From > 63 || m.To < 0 || m.To > 63 || m.Kind < 1 || m.Kind > 5 {
		return false
	}
	noSession, noSeq := m.Session == 0, m.Seq == 0
	noInterest, noVector, noNotes := len(m.Interest) == 0, len(m.Vector) == 0, len(m.Notes) == 0
	noRest := m.Body.Stamp == at(0, 0) && len(m.Body.Value) == 0
	noBody := m.Body.Object == 0 && noRest
	switch m.Kind {
	case 1:
		return m.Session >= 0 && !noInterest && span.Formed(m.Interest) && vector.Formed(m.Vector) && noSeq && noNotes && noBody
	case 2:
		return noSession && noSeq && noInterest && noVector && noNotes && noBody
	case 3:
		return m.Session >= 0 && m.Seq >= 0 && len(m.Notes) <= 257 && !slices.ContainsFunc(m.Notes, func(n api.Note) bool { return !note.Formed(n) }) &&
			noInterest && noVector && noBody
	case 4:
		return m.Body.Object >= 0 && m.Body.Object <= 255 && noRest && noSession && noSeq && noInterest && noVector && noNotes
	}
	return isBody(m.Body) && noSession && noSeq && noInterest && noVector && noNotes
}

// kind: one kind of thing, with the program's calls and the document's words.
type kind[T any] struct {
	name    string
	lay     func(b []byte, x T) ([]byte, api.Errno)
	read    func(b []byte) (T, int, api.Errno)
	numbers func(x T) []int
	take    func(t *taker) T
	formed  func(x T) bool
}

func vectors() kind[[]api.Stamp] {
	return kind[[]api.Stamp]{"vector", wire.AppendVector, wire.Vector, numbersOfVector, (*taker).vector, vector.Formed}
}

func sets() kind[[]api.Span] {
	return kind[[]api.Span]{"set", wire.AppendSet, wire.Set, numbersOfSet, (*taker).set, span.Formed}
}

func notes() kind[api.Note] {
	return kind[api.Note]{"note", wire.AppendNote, wire.Note, numbersOfNote, (*taker).note, note.Formed}
}

func bodies() kind[api.Body] {
	return kind[api.Body]{"body", wire.AppendBody, wire.Body, numbersOfBody, (*taker).body, isBody}
}

// messages: laid behind others by hand, and read with the size of all bytes: they are all the message's.
func messages() kind[api.Msg] {
	lay := func(b []byte, m api.Msg) ([]byte, api.Errno) {
		got, e := wire.Encode(m)
		if e != api.OK {
			return got, e
		}
		return slices.Concat(b, got), e
	}
	read := func(b []byte) (api.Msg, int, api.Errno) {
		m, e := wire.Decode(b)
		if e != api.OK {
			return m, 0, e
		}
		return m, len(b), e
	}
	return kind[api.Msg]{"message", lay, read, numbersOfMsg, (*taker).msg, isMsg}
}

// plain: a thing without the difference of nil and empty lists.
func plain(x any) any {
	v := reflect.New(reflect.TypeOf(x)).Elem()
	v.Set(reflect.ValueOf(x))
	makePlain(v)
	return v.Interface()
}

func makePlain(v reflect.Value) {
	switch v.Kind() {
	case reflect.Slice:
		if v.Len() == 0 {
			v.SetZero()
			return
		}
		fresh := reflect.MakeSlice(v.Type(), v.Len(), v.Len())
		reflect.Copy(fresh, v)
		for i := range fresh.Len() {
			makePlain(fresh.Index(i))
		}
		v.Set(fresh)
	case reflect.Struct:
		for i := range v.NumField() {
			makePlain(v.Field(i))
		}
	}
}

func same(a, b any) bool { return reflect.DeepEqual(plain(a), plain(b)) }

// checkLaid: a thing laid behind some bytes, as the document says; and read again, whatever stands behind.
func checkLaid[T any](t *testing.T, k kind[T], x T) {
	t.Helper()
	for _, beside := range [][]byte{nil, {}, {0}, {7, 0x80, 0xff}} {
		got, e := k.lay(beside, x)
		if !k.formed(x) {
			if e != api.ErrArg || len(got) != 0 {
				t.Fatalf("%s %v isn't formed: laid %x %d", k.name, x, got, e)
			}
			continue
		}
		b := bytesOf(k.numbers(x))
		if e != api.OK || !bytes.Equal(got, slices.Concat(beside, b)) {
			t.Fatalf("%s %v behind %x: laid %x %d, not %x", k.name, x, beside, got, e, b)
		}
		behind := beside
		if k.name == "message" {
			behind = nil
		}
		again, size, e := k.read(slices.Concat(b, behind))
		if e != api.OK || size != len(b) || !same(again, x) {
			t.Fatalf("%s %v: read %v %d %d of %x and %x", k.name, x, again, size, e, b, behind)
		}
	}
}

// checkRead: what is read of any bytes, as the document says. Was it a thing?
func checkRead[T any](t *testing.T, k kind[T], b []byte) bool {
	t.Helper()
	got, size, e := k.read(b)
	by := &taker{b: b}
	want := k.take(by)
	if by.bad || !k.formed(want) || k.name == "message" && len(by.b) > 0 {
		var none T
		if e != api.ErrForm || size != 0 || !same(got, none) {
			t.Fatalf("%s: read %v %d %d of %x, not ErrForm", k.name, got, size, e, b)
		}
		return false
	}
	if e != api.OK || size != len(b)-len(by.b) || !same(got, want) {
		t.Fatalf("%s: read %v %d %d of %x, not %v", k.name, got, size, e, b, want)
	}
	if again, f := k.lay(nil, got); f != api.OK || !bytes.Equal(again, b[:size]) {
		t.Fatalf("%s of %x, laid again: %x %d", k.name, b, again, f)
	}
	return true
}

// checkAllOf: each one of some things laid and read, cut anywhere, with bytes changed, put in and behind.
func checkAllOf[T any](t *testing.T, k kind[T], list []T) {
	t.Helper()
	for _, x := range list {
		checkLaid(t, k, x)
		if !k.formed(x) {
			// What isn't formed has no bytes: what would be its own is refused, too.
			checkRead(t, k, bytesOf(k.numbers(x)))
			continue
		}
		checkSpoilt(t, k, bytesOf(k.numbers(x)))
	}
}

// checkSpoilt: a thing's bytes, ended too early anywhere, and each of them another one, left out or doubled.
func checkSpoilt[T any](t *testing.T, k kind[T], b []byte) {
	t.Helper()
	for i := range b {
		if got, size, e := k.read(b[:i]); e != api.ErrForm || size != 0 || len(memories(got)) != 0 {
			t.Fatalf("%s: of %x its first %d bytes: %v %d %d", k.name, b, i, got, size, e)
		}
	}
	step := 1 + len(b)/60
	for i := 0; i < len(b); i += step {
		for _, x := range []byte{0, 1, 2, 3, b[i] - 1, b[i] + 1, b[i] ^ 0x80, 63, 64, 0x7f, 0x80, 0xff} {
			spoilt := slices.Clone(b)
			spoilt[i] = x
			checkRead(t, k, spoilt)
			checkRead(t, k, slices.Insert(slices.Clone(b), i, x))
			checkRead(t, k, append(slices.Clone(b), x))
		}
		checkRead(t, k, slices.Delete(slices.Clone(b), i, i+1))
		if b[i] < 128 {
			// The same number in more bytes than it needs (where it is one).
			long := slices.Insert(slices.Clone(b), i+1, 0)
			long[i] |= 0x80
			checkRead(t, k, long)
			checkRead(t, k, slices.Insert(long, i+1, 0x80))
		}
	}
}

// someVectors: right and wrong ones.
func someVectors() [][]api.Stamp {
	var full []api.Stamp
	for node := range 64 {
		full = append(full, at(1<<node-1|1, node))
	}
	full[63] = at(api.MaxCount, 63)
	return [][]api.Stamp{
		nil, vec(), vec(at(1, 0)), vec(at(1, 63)), vec(at(api.MaxCount, 0)), vec(at(api.MaxCount, 63)), vec(at(5, 0), at(2, 3)),
		vec(at(127, 0), at(128, 1), at(16383, 2), at(16384, 62), at(api.MaxCount-1, 63)), full, full[1:], full[:63],
		vec(at(0, 0)), vec(at(-1, 0)), vec(at(math.MinInt, 0)), vec(at(1, 64)), vec(at(1, -1)), vec(at(1, math.MinInt)), vec(at(1, math.MaxInt)),
		vec(at(2, 3), at(5, 0)), vec(at(5, 0), at(5, 0)), vec(at(5, 0), at(0, 3)), vec(at(0, 0), at(5, 3)), append(slices.Clone(full), at(1, 64)), append(slices.Clone(full), at(1, 63)),
	}
}

// someSets: right and wrong ones.
func someSets() [][]api.Span {
	var evens []api.Span
	for o := 0; o < 256; o += 2 {
		evens = append(evens, to(o, o))
	}
	return [][]api.Span{
		nil, set(), set(to(0, 0)), set(to(255, 255)), set(to(0, 255)), set(to(1, 3)), set(to(0, 1), to(3, 3), to(127, 128), to(254, 255)), evens, evens[1:],
		set(to(5, 4)), set(to(-1, 0)), set(to(255, 256)), set(to(256, 256)), set(to(math.MinInt, math.MaxInt)), set(to(0, math.MaxInt)), set(to(math.MaxInt, math.MaxInt)),
		set(to(3, 3), to(1, 1)), set(to(3, 3), to(3, 3)), set(to(1, 2), to(3, 4)), set(to(1, 5), to(3, 9)), append(slices.Clone(evens), to(255, 255)), append(slices.Clone(evens), to(256, 256)),
	}
}

// great: a note with a write of each object.
func great() api.Note {
	n := api.Note{Start: vec(at(3, 7)), End: vec(at(1000, 7), at(api.MaxCount, 63))}
	for o := range 256 {
		w := put(o, 1000-o, 7)
		w.Gone = o%3 == 0
		n.Writes = append(n.Writes, w)
	}
	return n
}

// base: a note with something of all in it.
func base() api.Note {
	return api.Note{
		Start:  vec(at(5, 0), at(2, 3)),
		End:    vec(at(600, 0), at(4, 1), at(2, 3), at(api.MaxCount, 63)),
		Blur:   set(to(1, 2), to(10, 20), to(254, 254)),
		Writes: row(put(0, 600, 0), gone(3, 4, 1), put(21, api.MaxCount, 63), gone(255, 1, 1)),
	}
}

// changed: the base, but for one thing.
func changed(change func(n *api.Note)) api.Note {
	n := base()
	change(&n)
	return n
}

// someNotes: right and wrong ones.
func someNotes() []api.Note {
	list := []api.Note{
		{}, {Start: vec(), End: vec(), Blur: set(), Writes: row()}, base(), great(),
		{Blur: set(to(0, 255))}, {Start: vec(at(5, 0)), End: vec(at(5, 0))},
		{End: vec(at(1, 63)), Writes: row(put(0, 1, 63))}, {End: vec(at(1, 0)), Writes: row(gone(255, 1, 0))},
		{End: vec(at(api.MaxCount, 0)), Writes: row(put(0, api.MaxCount, 0))},
		changed(func(n *api.Note) { n.Start = nil }), changed(func(n *api.Note) { n.Blur = nil }), changed(func(n *api.Note) { n.Writes = nil }),
	}
	for _, v := range someVectors() {
		list = append(list, api.Note{Start: v, End: v}, changed(func(n *api.Note) { n.Start = v }), api.Note{End: v}, changed(func(n *api.Note) { n.End = v }))
	}
	for _, l := range someSets() {
		list = append(list, api.Note{Blur: l}, changed(func(n *api.Note) { n.Blur = l }))
	}
	for i, o := range []int{-1, 1, 3, 254, 256, math.MaxInt, math.MinInt} {
		list = append(list, changed(func(n *api.Note) { n.Writes[i%4].Object = o }))
	}
	for _, s := range vec(at(0, 0), at(-1, 0), at(601, 0), at(1, 64), at(1, -1), at(1, 2), at(5, 1), at(math.MinInt, math.MinInt)) {
		list = append(list, changed(func(n *api.Note) { n.Writes[1].Stamp = s }))
	}
	list = append(list, changed(func(n *api.Note) { slices.Reverse(n.Writes) }), changed(func(n *api.Note) { n.Writes[1] = n.Writes[0] }))
	tooMany := great()
	tooMany.Writes = append(tooMany.Writes, put(256, 1, 7))
	return append(list, tooMany)
}

// someBodies: right and wrong ones.
func someBodies() []api.Body {
	var list []api.Body
	for _, o := range []int{0, 1, 127, 128, 255, -1, 256, math.MinInt, math.MaxInt} {
		for _, s := range vec(at(1, 0), at(api.MaxCount, 63), at(300, 5), at(0, 0), at(1, 64), at(1, -1), at(-1, 0), at(math.MinInt, 3)) {
			list = append(list, body(o, s.Count, s.Node, []byte{5}), body(o, s.Count, s.Node, nil))
		}
	}
	for _, size := range []int{0, 1, 2, 127, 128, 255, 256, 257, 258, 1000, 70000} {
		list = append(list, body(7, 3, 2, counted(size)), body(255, 3, 63, bytes.Repeat([]byte{0}, size)), body(0, api.MaxCount, 0, bytes.Repeat([]byte{0xff}, size)))
	}
	return append(list, api.Body{}, body(0, 1, 0, []byte{}))
}

// full: messages of each kind with something in each field that is named.
func full() []api.Msg {
	return []api.Msg{
		{Kind: 1, From: 1, To: 2, Session: 300, Interest: set(to(1, 3)), Vector: vec(at(5, 0), at(2, 3))},
		{Kind: 2, From: 1, To: 2},
		{Kind: 3, From: 1, To: 2, Session: 300, Seq: 9, Notes: []api.Note{base(), {}, {Blur: set(to(0, 255))}}},
		{Kind: 4, From: 1, To: 2, Body: api.Body{Object: 7}},
		{Kind: 5, From: 1, To: 2, Body: body(7, 300, 3, []byte{5, 6, 7})},
	}
}

// altered: each kind of message, with each field on its own set, and unset, to what may or may not stand there.
func altered() []api.Msg {
	var list []api.Msg
	change := func(f func(m *api.Msg)) {
		for _, m := range full() {
			f(&m)
			list = append(list, m)
		}
	}
	change(func(m *api.Msg) {})
	for _, n := range []int{0, 62, 63, 64, 65, -1, 127, 128, 256, math.MaxInt, math.MinInt} {
		change(func(m *api.Msg) { m.From = n })
		change(func(m *api.Msg) { m.To = n })
		change(func(m *api.Msg) { m.From, m.To = n, n })
	}
	for _, n := range []int{0, 1, 127, 128, math.MaxInt, -1, math.MinInt} {
		change(func(m *api.Msg) { m.Session = n })
		change(func(m *api.Msg) { m.Seq = n })
		change(func(m *api.Msg) { m.Session, m.Seq = n, n })
	}
	for _, l := range someSets() {
		change(func(m *api.Msg) { m.Interest = l })
	}
	for _, v := range someVectors() {
		change(func(m *api.Msg) { m.Vector = v })
	}
	for _, n := range someNotes() {
		change(func(m *api.Msg) { m.Notes = []api.Note{n} })
		change(func(m *api.Msg) { m.Notes = []api.Note{{}, n} })
	}
	for _, x := range someBodies() {
		change(func(m *api.Msg) { m.Body = x })
		change(func(m *api.Msg) { m.Body.Object = x.Object })
		change(func(m *api.Msg) { m.Body.Stamp = x.Stamp })
		change(func(m *api.Msg) { m.Body.Value = x.Value })
	}
	for _, n := range []int{0, 1, 2, 3, 4, 5, 6, 7, -1, 127, 128, 256, 257, math.MaxInt, math.MinInt} {
		change(func(m *api.Msg) { m.Kind = n })
		list = append(list, api.Msg{Kind: n}, api.Msg{Kind: n, From: 63, To: 63})
	}
	change(func(m *api.Msg) {
		*m = api.Msg{Kind: m.Kind, Session: m.Session, Interest: set(), Vector: vec(), Notes: []api.Note{}, Body: api.Body{Value: []byte{}}}
	})
	return append(list, withNotes(0), withNotes(1), withNotes(256), withNotes(257), withNotes(258), withNotes(1000), api.Msg{})
}

// withNotes: a message of so many notes.
func withNotes(n int) api.Msg {
	m := api.Msg{Kind: 3, From: 63, To: 0, Session: 1, Seq: math.MaxInt}
	for i := range n {
		m.Notes = append(m.Notes, api.Note{Start: vec(at(i+1, 0)), End: vec(at(i+2, 0)), Writes: row(put(i%256, i+2, 0))})
	}
	return m
}

// P6.1, P6.2: vectors, sets, notes and bodies, right and wrong ones, up to their edges.
func TestThings(t *testing.T) {
	checkAllOf(t, vectors(), someVectors())
	checkAllOf(t, sets(), someSets())
	checkAllOf(t, notes(), someNotes())
	checkAllOf(t, bodies(), someBodies())
}

// P6.1, P6.2: messages of each kind, each field set and unset, and their bytes.
func TestMessages(t *testing.T) {
	list := altered()
	good := 0
	for _, m := range list {
		if got := wire.Formed(m); got != isMsg(m) {
			t.Fatal("Formed:", m, got)
		}
		if isMsg(m) {
			good++
		}
		checkLaid(t, messages(), m)
	}
	if good < 100 || good > len(list)-100 {
		t.Error(good, "of", len(list))
	}
	checkAllOf(t, messages(), full())
	checkAllOf(t, messages(), []api.Msg{withNotes(0), withNotes(2), withNotes(256), withNotes(257), withNotes(258)})
}

// P6.1: Formed of messages with any number of fields set at once.
func TestFormedOfAnyMessage(t *testing.T) {
	seen := 0
	for m := range anyMessages {
		want := isMsg(m)
		if wire.Formed(m) != want {
			t.Fatal(m, "formed:", !want)
		}
		got, e := wire.Encode(m)
		if want != (e == api.OK) || !want && (e != api.ErrArg || len(got) != 0) || want && !bytes.Equal(got, bytesOf(numbersOfMsg(m))) {
			t.Fatalf("%v: %x %d", m, got, e)
		}
		if want {
			seen++
		}
	}
	if seen < 50 {
		t.Error(seen)
	}
}

// anyMessages: all messages of fields from some pools.
func anyMessages(yield func(m api.Msg) bool) {
	for kind := -1; kind <= 6; kind++ {
		for _, session := range []int{-1, 0, 1} {
			for _, seq := range []int{-1, 0, 1} {
				for _, interest := range [][]api.Span{nil, set(), set(to(0, 255)), set(to(5, 4))} {
					for _, v := range [][]api.Stamp{nil, vec(at(1, 0)), vec(at(0, 0))} {
						for _, list := range [][]api.Note{nil, {}, {{}}, {{Start: vec(at(1, 0))}}, {{}, {Blur: set(to(5, 4))}}} {
							for _, x := range []api.Body{{}, {Object: 7}, {Object: 256}, {Object: -1}, {Stamp: at(1, 0)}, {Stamp: at(0, 1)}, {Value: []byte{0}}, body(7, 1, 0, nil), body(7, 1, 0, []byte{5}), body(256, 1, 0, nil), body(7, 1, 64, nil)} {
								if !yield(api.Msg{Kind: kind, From: 63, Session: session, Seq: seq, Interest: interest, Vector: v, Notes: list, Body: x}) {
									return
								}
							}
						}
					}
				}
			}
		}
	}
}

// forAll: all lists of so many bytes from a pool, each in one memory that is written over by the next.
func forAll(size int, pool []byte, see func(b []byte)) {
	b := make([]byte, size)
	var fill func(i int)
	fill = func(i int) {
		if i == size {
			see(b)
			return
		}
		for _, x := range pool {
			b[i] = x
			fill(i + 1)
		}
	}
	fill(0)
}

// P6.1, P6.2: all short lists of small bytes, and of bytes at the edges, read as each thing.
func TestAllShortBytes(t *testing.T) {
	things := 0
	count := func(is bool) {
		if is {
			things++
		}
	}
	see := func(b []byte) {
		count(checkRead(t, vectors(), b))
		count(checkRead(t, sets(), b))
		count(checkRead(t, notes(), b))
		count(checkRead(t, bodies(), b))
		count(checkRead(t, messages(), b))
	}
	for size := range 8 {
		forAll(size, []byte{0, 1, 2, 3}, see)
	}
	for size := range 7 {
		forAll(size, []byte{0, 1, 2, 0x80, 5}, see)
		forAll(size, []byte{1, 63, 64, 0x7f, 0xff}, see)
	}
	for size := range 10 {
		forAll(size, []byte{0, 1, 3}, see)
	}
	if things < 1000 {
		t.Error(things)
	}
}

// P6.1: longer lists of small bytes behind the first ones of each kind of message.
func TestAllBytesOfMessages(t *testing.T) {
	for kind := range byte(8) {
		for size := range 8 {
			forAll(size, []byte{0, 1, 2, 4}, func(b []byte) {
				checkRead(t, messages(), slices.Concat([]byte{kind, 63, 0}, b))
			})
		}
	}
	for _, ahead := range [][]byte{{1}, {1, 63}, {1, 64, 0}, {1, 0, 64}, {2, 63, 63}, {2, 64, 0}, {2, 0, 64}, {4, 0x80, 0x80}, {5, 1, 2, 7, 0, 1}, {3, 0, 0, 1, 1, 1}} {
		for size := range 7 {
			forAll(size, []byte{0, 1, 2, 64, 0x80}, func(b []byte) {
				checkRead(t, messages(), slices.Concat(ahead, b))
			})
		}
	}
}

// P6.1: the document's examples, and bytes written out.
func TestBytesWrittenOut(t *testing.T) {
	if b, e := wire.AppendVector(nil, vec(at(5, 0), at(2, 3))); e != api.OK || !bytes.Equal(b, []byte{2, 0, 5, 3, 2}) {
		t.Error(b, e)
	}
	if b, e := wire.AppendSet([]byte{9}, set(to(1, 3))); e != api.OK || !bytes.Equal(b, []byte{9, 1, 1, 3}) {
		t.Error(b, e)
	}
	if v, size, e := wire.Vector([]byte{2, 3, 2, 0, 5}); e != api.ErrForm || size != 0 || len(v) != 0 {
		t.Error(v, size, e)
	}
	n := api.Note{Start: vec(at(5, 0)), End: vec(at(5, 0), at(300, 1)), Blur: set(to(4, 6)), Writes: row(put(3, 6, 1), gone(200, 300, 1))}
	laid := []byte{1, 0, 5, 2, 0, 5, 1, 0xac, 2, 1, 4, 6, 2, 3, 1, 6, 0, 0xc8, 1, 1, 0xac, 2, 1}
	if b, e := wire.AppendNote(nil, n); e != api.OK || !bytes.Equal(b, laid) {
		t.Errorf("%x %d", b, e)
	}
	for _, c := range []struct {
		m api.Msg
		b []byte
	}{
		{api.Msg{Kind: api.MsgAsk, From: 1, To: 2, Body: api.Body{Object: 7}}, []byte{4, 1, 2, 7}},
		{api.Msg{Kind: api.MsgEnd, From: 63}, []byte{2, 63, 0}},
		{api.Msg{Kind: api.MsgSub, From: 1, To: 2, Session: 128, Interest: set(to(1, 3)), Vector: vec(at(5, 0))}, []byte{1, 1, 2, 0x80, 1, 1, 1, 3, 1, 0, 5}},
		{api.Msg{Kind: api.MsgNotes, From: 1, To: 2, Session: 3, Seq: 4}, []byte{3, 1, 2, 3, 4, 0}},
		{api.Msg{Kind: api.MsgNotes, From: 1, To: 2, Session: 3, Seq: 4, Notes: []api.Note{n, {}}}, slices.Concat([]byte{3, 1, 2, 3, 4, 2}, laid, []byte{0, 0, 0, 0})},
		{api.Msg{Kind: api.MsgBody, From: 1, To: 2, Body: body(7, 5, 3, []byte{0x80, 0})}, []byte{5, 1, 2, 7, 3, 5, 2, 0x80, 0}},
	} {
		if b, e := wire.Encode(c.m); e != api.OK || !bytes.Equal(b, c.b) {
			t.Errorf("%v: %x %d", c.m, b, e)
		}
		if m, e := wire.Decode(c.b); e != api.OK || !same(m, c.m) {
			t.Errorf("%x: %v %d", c.b, m, e)
		}
		if m, e := wire.Decode(append(slices.Clone(c.b), 0)); e != api.ErrForm || !same(m, api.Msg{}) {
			t.Errorf("%x and a byte more: %v %d", c.b, m, e)
		}
	}
}

// P6.1: a number that says how many things follow, far more than there are: refused, whatever follows.
func TestHowMany(t *testing.T) {
	for _, n := range []int{65, 129, 257, 258, 1 << 20, math.MaxInt32, math.MaxInt} {
		head := bytesOf([]int{n})
		for _, behind := range [][]byte{nil, {0}, {0, 1}, bytes.Repeat([]byte{0}, 4000), bytes.Repeat([]byte{1}, 4000)} {
			b := slices.Concat(head, behind)
			checkRead(t, vectors(), b)
			checkRead(t, sets(), b)
			checkRead(t, notes(), b)
			checkRead(t, notes(), slices.Concat([]byte{0}, b))
			checkRead(t, notes(), slices.Concat([]byte{0, 0}, b))
			checkRead(t, notes(), slices.Concat([]byte{0, 0, 0}, b))
			checkRead(t, bodies(), slices.Concat([]byte{1, 1, 1}, b))
			checkRead(t, messages(), slices.Concat([]byte{1, 1, 2, 3}, b))
			checkRead(t, messages(), slices.Concat([]byte{1, 1, 2, 3, 1, 0, 1}, b))
			checkRead(t, messages(), slices.Concat([]byte{3, 1, 2, 3, 4}, b))
			checkRead(t, messages(), slices.Concat([]byte{5, 1, 2, 1, 1, 1}, b))
		}
	}
}

// P6.2: things one behind the other are read in their order.
func TestOneBehindTheOther(t *testing.T) {
	var b []byte
	lay := func(got []byte, e api.Errno) {
		if e != api.OK || !bytes.HasPrefix(got, b) {
			t.Fatal(e)
		}
		b = got
	}
	v, l, n, x := vec(at(5, 0), at(200, 3)), set(to(0, 3), to(9, 255)), base(), body(7, 300, 3, counted(256))
	for range 3 {
		lay(wire.AppendVector(b, v))
		lay(wire.AppendSet(b, l))
		lay(wire.AppendNote(b, n))
		lay(wire.AppendBody(b, x))
		lay(wire.AppendVector(b, nil))
	}
	for range 3 {
		gotV, size, e := wire.Vector(b)
		b = b[size:]
		gotL, size, f := wire.Set(b)
		b = b[size:]
		gotN, size, g := wire.Note(b)
		b = b[size:]
		gotX, size, h := wire.Body(b)
		b = b[size:]
		if e+f+g+h != 0 || !same(gotV, v) || !same(gotL, l) || !same(gotN, n) || !same(gotX, x) || b[0] != 0 {
			t.Fatal(gotV, e, gotL, f, gotN, g, gotX, h)
		}
		b = b[1:]
	}
	if len(b) != 0 {
		t.Error(len(b), "left")
	}
}

// P6.1: the greatest message, whose bytes must not take their time over one another.
func TestGreatestMessage(t *testing.T) {
	m := api.Msg{Kind: 3, From: 63, To: 63, Session: math.MaxInt, Seq: math.MaxInt}
	for range 257 {
		m.Notes = append(m.Notes, great())
	}
	b, e := wire.Encode(m)
	if e != api.OK || !bytes.Equal(b, bytesOf(numbersOfMsg(m))) {
		t.Fatal(len(b), e)
	}
	if got, e := wire.Decode(b); e != api.OK || !same(got, m) {
		t.Fatal(e)
	}
	if _, e := wire.Decode(b[:len(b)-1]); e != api.ErrForm {
		t.Fatal(e)
	}
}

// roomy: a copy of a list with spare room, filled with what would be seen if it were changed.
func roomy[T any](list []T, x T) []T {
	return append(slices.Clone(list), x, x, x)[:len(list)]
}

// whole: a list with its spare room.
func whole[T any](list []T) []T { return list[:cap(list)] }

func roomyNote(n api.Note) api.Note {
	return api.Note{Start: roomy(n.Start, at(7, 7)), End: roomy(n.End, at(0, 99)), Blur: roomy(n.Blur, to(9, 3)), Writes: roomy(n.Writes, put(300, 0, 99))}
}

func roomyMsg(m api.Msg) api.Msg {
	m.Interest, m.Vector, m.Body.Value = roomy(m.Interest, to(9, 3)), roomy(m.Vector, at(7, 7)), roomy(m.Body.Value, 0x5a)
	var list []api.Note
	for _, n := range m.Notes {
		list = append(list, roomyNote(n))
	}
	m.Notes = roomy(list, api.Note{Start: vec(at(0, 99))})
	return m
}

// kept: a copy of all that a thing holds, the spare room of its lists too.
func kept[T any](x T) T {
	v := reflect.ValueOf(&x).Elem()
	keep(v)
	return x
}

func keep(v reflect.Value) {
	switch v.Kind() {
	case reflect.Slice:
		all := v.Slice3(0, v.Cap(), v.Cap())
		fresh := reflect.MakeSlice(v.Type(), all.Len(), all.Len())
		reflect.Copy(fresh, all)
		for i := range fresh.Len() {
			keep(fresh.Index(i))
		}
		v.Set(fresh)
	case reflect.Struct:
		for i := range v.NumField() {
			keep(v.Field(i))
		}
	}
}

// P1 (rule 5): what is handed in stays as it is, its spare room too.
func TestArgumentsStay(t *testing.T) {
	check := func(b, wasB []byte, x, wasX any) {
		t.Helper()
		if !bytes.Equal(whole(b), wasB) {
			t.Fatalf("changed: %x", whole(b))
		}
		if !reflect.DeepEqual(x, wasX) {
			t.Fatal("changed:", x)
		}
	}
	for _, ahead := range [][]byte{nil, {1, 2}, counted(300)} {
		b := roomy(ahead, 0x5a)
		wasB := slices.Clone(whole(b))
		for _, v := range someVectors() {
			v = roomy(v, at(7, 7))
			was := kept(v)
			wire.AppendVector(b, v)
			check(b, wasB, kept(v), was)
		}
		for _, l := range someSets() {
			l = roomy(l, to(9, 3))
			was := kept(l)
			wire.AppendSet(b, l)
			check(b, wasB, kept(l), was)
		}
		for _, n := range someNotes() {
			n = roomyNote(n)
			was := kept(n)
			wire.AppendNote(b, n)
			check(b, wasB, kept(n), was)
		}
		for _, x := range someBodies() {
			x.Value = roomy(x.Value, 0x5a)
			was := kept(x)
			wire.AppendBody(b, x)
			check(b, wasB, kept(x), was)
		}
	}
	for _, m := range altered() {
		m = roomyMsg(m)
		was := kept(m)
		wire.Formed(m)
		b, _ := wire.Encode(m)
		check(nil, nil, kept(m), was)
		for _, some := range [][]byte{b, counted(40), {}, {2, 3, 2, 0, 5}} {
			some = roomy(some, 0x5a)
			wasSome := slices.Clone(whole(some))
			wire.Decode(some)
			wire.Vector(some)
			wire.Set(some)
			wire.Note(some)
			wire.Body(some)
			check(some, wasSome, 0, 0)
		}
	}
}

// memories: the first and last address of each list in a thing, spare room too.
func memories(x any) [][2]uintptr {
	var list [][2]uintptr
	var walk func(v reflect.Value)
	walk = func(v reflect.Value) {
		switch v.Kind() {
		case reflect.Slice:
			if v.Cap() > 0 {
				first := v.Pointer()
				list = append(list, [2]uintptr{first, first + uintptr(v.Cap())*v.Type().Elem().Size()})
			}
			for i := range v.Len() {
				walk(v.Index(i))
			}
		case reflect.Struct:
			for i := range v.NumField() {
				walk(v.Field(i))
			}
		}
	}
	walk(reflect.ValueOf(x))
	return list
}

// checkApart: do no two lists of some things share memory?
func checkApart(t *testing.T, things ...any) {
	t.Helper()
	var all [][2]uintptr
	for _, x := range things {
		all = append(all, memories(x)...)
	}
	slices.SortFunc(all, func(a, b [2]uintptr) int { return slices.Compare(a[:], b[:]) })
	for i := 1; i < len(all); i++ {
		if all[i][0] < all[i-1][1] {
			t.Fatal("shared memory:", things)
		}
	}
}

// P1 (rule 5): what is answered shares no memory with an argument, nor with another answer, nor within itself.
func TestAnswersAreNewMemory(t *testing.T) {
	for _, ahead := range [][]byte{nil, {1, 2}, counted(300)} {
		b := roomy(ahead, 0x5a)
		for _, n := range someNotes() {
			n = roomyNote(n)
			laidV, _ := wire.AppendVector(b, n.Start)
			laidL, _ := wire.AppendSet(b, n.Blur)
			laidN, _ := wire.AppendNote(b, n)
			laidN2, _ := wire.AppendNote(b, n)
			checkApart(t, b, n, laidV, laidL, laidN, laidN2)
		}
		for _, x := range someBodies() {
			laid, _ := wire.AppendBody(b, x)
			laid2, _ := wire.AppendBody(b, x)
			checkApart(t, b, x, laid, laid2)
		}
	}
	for _, n := range someNotes() {
		b := bytesOf(numbersOfNote(n))
		one, _, _ := wire.Note(b)
		other, _, _ := wire.Note(b)
		v, _, _ := wire.Vector(b)
		l, _, _ := wire.Set(b)
		checkApart(t, b, one, other, v, l)
	}
	for _, m := range append(full(), withNotes(257)) {
		m = roomyMsg(m)
		b, _ := wire.Encode(m)
		again, _ := wire.Encode(m)
		one, e := wire.Decode(b)
		other, f := wire.Decode(b)
		if e != api.OK || f != api.OK {
			t.Fatal(m, e, f)
		}
		checkApart(t, m, b, again, one, other)
		want := plain(one)
		for i := range b {
			b[i] = 0xee
		}
		if !same(one, want) || !same(other, want) {
			t.Fatal("hangs on the bytes that were handed in:", one, other)
		}
	}
	for _, x := range someBodies() {
		b := bytesOf(numbersOfBody(x))
		one, _, _ := wire.Body(b)
		other, _, _ := wire.Body(b)
		checkApart(t, b, one, other)
	}
}
