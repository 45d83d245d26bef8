package entry

import (
	"telltale/api"
	"telltale/pack"
	"telltale/wire"
)

// reader: the bytes that aren't read yet.
type reader struct {
	rest []byte
}

// entryOf: what all of some bytes say, formed or not; is it read, or did the reader give up?
func entryOf(b []byte) (x api.Entry, isRead bool) {
	defer func() {
		// Whoever gave up was in the midst of a record: what was read of it so far says nothing.
		if recover() != nil {
			x, isRead = api.Entry{}, false
		}
	}()
	r := &reader{rest: b}
	x = takeEntry(r)
	if len(r.rest) > 0 {
		giveUp()
	}
	return x, true
}

// giveUp: these aren't an entry's bytes.
func giveUp() {
	panic(api.ErrForm)
}

// take: the next thing, as layer 5 or 6 reads it.
func take[T any](r *reader, begun func([]byte) (T, int, api.Errno)) T {
	x, size, e := begun(r.rest)
	if e != api.OK {
		giveUp()
	}
	r.rest = r.rest[size:]
	return x
}

// number: the next number.
func (r *reader) number() int {
	return take(r, pack.Number)
}

// takeList: the things within a thing: how many, at most so many, and each one.
func takeList[T any](r *reader, most int, takeOne func(*reader) T) []T {
	n := r.number()
	if n > most {
		// Ahead of what follows: bytes must not say how much memory is taken for what can't be formed.
		giveUp()
	}
	var list []T
	for range n {
		list = append(list, takeOne(r))
	}
	return list
}

// takeEntry: of a kind that doesn't exist it has no fields, and isn't formed.
func takeEntry(r *reader) api.Entry {
	x := api.Entry{Kind: r.number()}
	switch x.Kind {
	case api.EntryNote:
		x.Note = take(r, wire.Note)
	case api.EntryBody:
		x.Body = takeBody(r)
	case api.EntryWrite:
		x.Note = take(r, wire.Note)
		if len(x.Note.Writes) != 1 {
			giveUp()
		}
		if hasValue(x.Note) {
			x.Body = takeBody(r)
		}
	case api.EntrySub:
		x.From = r.number()
		x.Interest = take(r, wire.Set)
	case api.EntryCheck:
		x.View = takeView(r)
		x.Subs = takeList(r, api.MaxSubs, takeSub)
	}
	return x
}

// takeView: there are no more zones, writes or bodies in it than objects.
func takeView(r *reader) api.View {
	var v api.View
	v.Known = take(r, wire.Vector)
	v.Zones = takeList(r, api.MaxObjects, takeZone)
	v.Held = takeList(r, api.MaxObjects, takeWrite)
	v.Bodies = takeList(r, api.MaxObjects, takeBody)
	v.Room = r.number()
	return v
}

func takeZone(r *reader) api.Zone {
	var z api.Zone
	z.Span.Lo = r.number()
	z.Span.Hi = r.number()
	z.Vector = take(r, wire.Vector)
	return z
}

func takeWrite(r *reader) api.Write {
	var w api.Write
	w.Object = r.number()
	w.Stamp.Node = r.number()
	w.Stamp.Count = r.number()
	gone := r.number()
	if gone > 1 {
		giveUp()
	}
	w.Gone = gone == 1
	return w
}

func takeBody(r *reader) api.Body {
	return take(r, wire.Body)
}

func takeSub(r *reader) api.Sub {
	var s api.Sub
	s.From = r.number()
	s.Interest = take(r, wire.Set)
	return s
}
