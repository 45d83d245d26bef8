package wire

import (
	"telltale/api"
	"telltale/pack"
)

// reader: the bytes that aren't read yet. Once something couldn't be read it has none, and stays bad.
type reader struct {
	rest []byte
	bad  bool
}

// fail: these bytes can't be read.
func (r *reader) fail() {
	// Without bytes all that is asked for further on fails, too: nobody who reads must ask each time.
	r.rest, r.bad = nil, true
}

// number: the next number; 0, if there is none.
func (r *reader) number() int {
	n, size, e := pack.Number(r.rest)
	if e != api.OK {
		r.fail()
		return 0
	}
	r.rest = r.rest[size:]
	return n
}

// row: the next row of up to so many bytes; none, if there is none.
func (r *reader) row(most int) []byte {
	row, size, e := pack.Row(r.rest, most)
	if e != api.OK {
		r.fail()
		return nil
	}
	r.rest = r.rest[size:]
	return row
}

// begun: the thing that bytes begin with, if what they begin with is formed, and how many bytes it has.
func begun[T any](b []byte, read func(*reader) T, formed func(T) bool) (T, int, api.Errno) {
	r := &reader{rest: b}
	x := read(r)
	if r.bad || !formed(x) {
		var none T
		return none, 0, api.ErrForm
	}
	return x, len(b) - len(r.rest), api.OK
}

// readList: the things within a thing: how many, at most so many, and each one.
func readList[T any](r *reader, most int, read func(*reader) T) []T {
	n := r.number()
	if n > most {
		// Refused ahead of what follows: bytes must not say how much memory is taken for what can't be formed.
		r.fail()
		return nil
	}
	var list []T
	for range n {
		list = append(list, read(r))
	}
	return list
}

func readVector(r *reader) []api.Stamp {
	return readList(r, api.MaxNodes, readStamp)
}

func readStamp(r *reader) api.Stamp {
	node := r.number()
	count := r.number()
	return api.Stamp{Count: count, Node: node}
}

func readSet(r *reader) []api.Span {
	return readList(r, api.MaxSpans, readSpan)
}

func readSpan(r *reader) api.Span {
	lo := r.number()
	hi := r.number()
	return api.Span{Lo: lo, Hi: hi}
}

func readNote(r *reader) api.Note {
	var n api.Note
	n.Start = readVector(r)
	n.End = readVector(r)
	n.Blur = readSet(r)
	n.Writes = readList(r, api.MaxObjects, readWrite)
	return n
}

func readWrite(r *reader) api.Write {
	var w api.Write
	w.Object = r.number()
	w.Stamp = readStamp(r)
	gone := r.number()
	if gone > 1 {
		r.fail()
	}
	w.Gone = gone == 1
	return w
}

func readBody(r *reader) api.Body {
	var x api.Body
	x.Object = r.number()
	x.Stamp = readStamp(r)
	x.Value = r.row(api.MaxValue)
	return x
}

// readMsg: of a kind that doesn't exist it has no fields, and isn't formed.
func readMsg(r *reader) api.Msg {
	var m api.Msg
	m.Kind = r.number()
	m.From = r.number()
	m.To = r.number()
	switch m.Kind {
	case api.MsgSub:
		m.Session = r.number()
		m.Interest = readSet(r)
		m.Vector = readVector(r)
	case api.MsgNotes:
		m.Session = r.number()
		m.Seq = r.number()
		m.Notes = readList(r, api.MaxNotes, readNote)
	case api.MsgAsk:
		m.Body.Object = r.number()
	case api.MsgBody:
		m.Body = readBody(r)
	}
	return m
}
