package wire

import (
	"bytes"

	"telltale/api"
	"telltale/pack"
)

// laid: a thing laid behind bytes, in new memory, if it is formed.
func laid[T any](b []byte, x T, formed bool, lay func([]byte, T) []byte) ([]byte, api.Errno) {
	if !formed {
		return nil, api.ErrArg
	}
	// All that is laid grows this one copy: a copy for each number would take its time over long messages.
	return lay(bytes.Clone(b), x), api.OK
}

// layList: how many things, and each one's bytes.
func layList[T any](b []byte, list []T, lay func([]byte, T) []byte) []byte {
	b = layNumbers(b, len(list))
	for _, x := range list {
		b = lay(b, x)
	}
	return b
}

// layNumbers: numbers, none of which is below 0, one behind the other.
func layNumbers(b []byte, list ...int) []byte {
	for _, n := range list {
		number, _ := pack.AppendNumber(nil, n)
		b = append(b, number...)
	}
	return b
}

func layVector(b []byte, v []api.Stamp) []byte {
	return layList(b, v, layStamp)
}

func layStamp(b []byte, s api.Stamp) []byte {
	return layNumbers(b, s.Node, s.Count)
}

func laySet(b []byte, l []api.Span) []byte {
	return layList(b, l, laySpan)
}

func laySpan(b []byte, s api.Span) []byte {
	return layNumbers(b, s.Lo, s.Hi)
}

func layNote(b []byte, n api.Note) []byte {
	b = layVector(b, n.Start)
	b = layVector(b, n.End)
	b = laySet(b, n.Blur)
	return layList(b, n.Writes, layWrite)
}

func layWrite(b []byte, w api.Write) []byte {
	gone := 0
	if w.Gone {
		gone = 1
	}
	b = layStamp(layNumbers(b, w.Object), w.Stamp)
	return layNumbers(b, gone)
}

func layBody(b []byte, x api.Body) []byte {
	b = layStamp(layNumbers(b, x.Object), x.Stamp)
	return append(b, pack.AppendRow(nil, x.Value)...)
}

func layMsg(b []byte, m api.Msg) []byte {
	b = layNumbers(b, m.Kind, m.From, m.To)
	switch m.Kind {
	case api.MsgSub:
		b = laySet(layNumbers(b, m.Session), m.Interest)
		return layVector(b, m.Vector)
	case api.MsgNotes:
		return layList(layNumbers(b, m.Session, m.Seq), m.Notes, layNote)
	case api.MsgAsk:
		return layNumbers(b, m.Body.Object)
	case api.MsgBody:
		return layBody(b, m.Body)
	}
	return b
}
