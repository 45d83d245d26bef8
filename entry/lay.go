package entry

import (
	"telltale/api"
	"telltale/pack"
	"telltale/wire"
)

// lay: a thing that is formed, laid behind as layer 5 or 6 lays it.
func lay[T any](b []byte, x T, laid func([]byte, T) ([]byte, api.Errno)) []byte {
	// Laid apart, and then put behind: those layers copy what they lay behind, and a long view's bytes would be copied for each thing in it.
	own, _ := laid(nil, x)
	return append(b, own...)
}

// layNumbers: numbers, none of which is below 0, one behind the other.
func layNumbers(b []byte, list ...int) []byte {
	for _, n := range list {
		b = lay(b, n, pack.AppendNumber)
	}
	return b
}

// layList: how many things, and each one's bytes.
func layList[T any](b []byte, list []T, layOne func([]byte, T) []byte) []byte {
	b = layNumbers(b, len(list))
	for _, x := range list {
		b = layOne(b, x)
	}
	return b
}

func layEntry(b []byte, x api.Entry) []byte {
	b = layNumbers(b, x.Kind)
	switch x.Kind {
	case api.EntryNote:
		return lay(b, x.Note, wire.AppendNote)
	case api.EntryBody:
		return layBody(b, x.Body)
	case api.EntryWrite:
		b = lay(b, x.Note, wire.AppendNote)
		if hasValue(x.Note) {
			b = layBody(b, x.Body)
		}
		return b
	case api.EntrySub:
		return lay(layNumbers(b, x.From), x.Interest, wire.AppendSet)
	}
	return layList(layView(b, x.View), x.Subs, laySub)
}

func layView(b []byte, v api.View) []byte {
	b = lay(b, v.Known, wire.AppendVector)
	b = layList(b, v.Zones, layZone)
	b = layList(b, v.Held, layWrite)
	b = layList(b, v.Bodies, layBody)
	return layNumbers(b, v.Room)
}

func layZone(b []byte, z api.Zone) []byte {
	return lay(layNumbers(b, z.Span.Lo, z.Span.Hi), z.Vector, wire.AppendVector)
}

func layWrite(b []byte, w api.Write) []byte {
	gone := 0
	if w.Gone {
		gone = 1
	}
	return layNumbers(b, w.Object, w.Stamp.Node, w.Stamp.Count, gone)
}

func layBody(b []byte, x api.Body) []byte {
	return lay(b, x, wire.AppendBody)
}

func laySub(b []byte, s api.Sub) []byte {
	return lay(layNumbers(b, s.From), s.Interest, wire.AppendSet)
}
