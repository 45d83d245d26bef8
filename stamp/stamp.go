// Package stamp is layer 1: accept stamps, and their order. See shared/doc/01-stamp.md.
package stamp

import (
	"cmp"
	"strconv"
	"strings"

	"telltale/api"
)

// Right: is it right?
func Right(s api.Stamp) bool {
	// MaxCount is the greatest int, so no Count is above it.
	return s.Count >= 1 && rightNode(s.Node)
}

// rightNode: is it a node's number?
func rightNode(node int) bool {
	return node >= 0 && node < api.MaxNodes
}

// Compare: how two stamps stand.
func Compare(a, b api.Stamp) int {
	// Not by differences: of stamps that aren't right these may wrap round.
	if c := cmp.Compare(a.Count, b.Count); c != 0 {
		return c
	}
	return cmp.Compare(a.Node, b.Node)
}

// Next: the stamp behind a count.
func Next(count, node, skip int) (api.Stamp, api.Errno) {
	if count < 0 || !rightNode(node) || skip < 0 {
		return api.Stamp{}, api.ErrArg
	}
	// What is left above count is held against skip, since the sum may wrap round.
	if skip > api.MaxCount-1-count {
		return api.Stamp{}, api.ErrOverflow
	}
	return api.Stamp{Count: count + 1 + skip, Node: node}, api.OK
}

// Newest: the last one of all.
func Newest(list ...api.Stamp) (api.Stamp, bool) {
	if len(list) == 0 {
		return api.Stamp{}, false
	}
	// It begins with the first one: the zero stamp comes behind some that aren't right.
	newest := list[0]
	for _, s := range list[1:] {
		if Compare(s, newest) > 0 {
			newest = s
		}
	}
	return newest, true
}

// Show: a stamp's text.
func Show(s api.Stamp) (string, api.Errno) {
	if !Right(s) {
		return "", api.ErrArg
	}
	return strconv.Itoa(s.Count) + "@" + strconv.Itoa(s.Node), api.OK
}

// Parse: a text's stamp.
func Parse(text string) (api.Stamp, api.Errno) {
	left, right, _ := strings.Cut(text, "@")
	count, errCount := strconv.Atoi(left)
	node, errNode := strconv.Atoi(right)
	if errCount != nil || errNode != nil {
		return api.Stamp{}, api.ErrText
	}
	s := api.Stamp{Count: count, Node: node}
	// Numbers are read with signs and noughts ahead, too; only the one text that is shown will do.
	if shown, e := Show(s); e != api.OK || shown != text {
		return api.Stamp{}, api.ErrText
	}
	return s, api.OK
}
