package pack_test

import (
	"bytes"
	"math"
	"math/big"
	"slices"
	"testing"

	"telltale/api"
	"telltale/pack"
)

// times: a list of n bytes x, and others behind them.
func times(n int, x byte, behind ...byte) []byte {
	return append(bytes.Repeat([]byte{x}, n), behind...)
}

// counted: n bytes, each another one than those beside it.
func counted(n int) []byte {
	list := make([]byte, n)
	for i := range list {
		list[i] = byte(i*7 + 1)
	}
	return list
}

// laid: a number, and its bytes, as they are written out here.
type laid struct {
	n     int
	bytes []byte
}

// numbers: each length's least and greatest number, and what stands beside them.
func numbers() []laid {
	return []laid{
		{0, []byte{0}},
		{1, []byte{1}},
		{5, []byte{5}},
		{126, []byte{0x7e}},
		{127, []byte{0x7f}},
		{128, []byte{0x80, 1}},
		{129, []byte{0x81, 1}},
		{255, []byte{0xff, 1}},
		{256, []byte{0x80, 2}},
		{257, []byte{0x81, 2}},
		{300, []byte{0xac, 2}},
		{1<<14 - 1, []byte{0xff, 0x7f}},
		{1 << 14, []byte{0x80, 0x80, 1}},
		{1<<14 + 1, []byte{0x81, 0x80, 1}},
		{1<<21 - 1, times(2, 0xff, 0x7f)},
		{1 << 21, times(3, 0x80, 1)},
		{1<<28 - 1, times(3, 0xff, 0x7f)},
		{1 << 28, times(4, 0x80, 1)},
		{math.MaxInt32, times(4, 0xff, 7)},
		{math.MaxInt32 + 1, times(4, 0x80, 8)},
		{math.MaxUint32, times(4, 0xff, 0x0f)},
		{1<<35 - 1, times(4, 0xff, 0x7f)},
		{1 << 35, times(5, 0x80, 1)},
		{1<<42 - 1, times(5, 0xff, 0x7f)},
		{1 << 42, times(6, 0x80, 1)},
		{1<<49 - 1, times(6, 0xff, 0x7f)},
		{1 << 49, times(7, 0x80, 1)},
		{1<<56 - 1, times(7, 0xff, 0x7f)},
		{1 << 56, times(8, 0x80, 1)},
		{1<<56 + 1, []byte{0x81, 0x80, 0x80, 0x80, 0x80, 0x80, 0x80, 0x80, 1}},
		{0x0123456789abcdef, []byte{0xef, 0x9b, 0xaf, 0xcd, 0xf8, 0xac, 0xd1, 0x91, 1}},
		{1 << 62, times(8, 0x80, 0x40)},
		{math.MaxInt - 1, append([]byte{0xfe}, times(7, 0xff, 0x7f)...)},
		{math.MaxInt, times(8, 0xff, 0x7f)},
	}
}

// tails: what may stand behind a number or a row, or ahead of what is laid.
func tails() [][]byte {
	return [][]byte{nil, {}, {0}, {1}, {0x7f}, {0x80}, {0xff}, {0, 0}, {0x80, 0}, times(9, 0x80), times(20, 0xff), counted(300)}
}

// P5.1, P5.2: numbers and their bytes, as they are written out, whatever stands ahead and behind.
func TestNumbersWrittenOut(t *testing.T) {
	for _, c := range numbers() {
		if got := pack.Len(c.n); got != len(c.bytes) {
			t.Error("Len", c.n, got)
		}
		for _, beside := range tails() {
			want := slices.Concat(beside, c.bytes)
			if got, e := pack.AppendNumber(beside, c.n); e != api.OK || !bytes.Equal(got, want) {
				t.Errorf("AppendNumber(%x, %d): %x %d", beside, c.n, got, e)
			}
			b := slices.Concat(c.bytes, beside)
			if n, size, e := pack.Number(b); n != c.n || size != len(c.bytes) || e != api.OK {
				t.Errorf("Number(%x): %d %d %d", b, n, size, e)
			}
		}
	}
}

// P5.1: no number below 0 has bytes.
func TestNumbersBelowZero(t *testing.T) {
	for _, n := range []int{-1, -2, -127, -128, -129, -300, math.MinInt32, -1 << 56, math.MinInt + 1, math.MinInt} {
		if got := pack.Len(n); got != 0 {
			t.Error("Len", n, got)
		}
		for _, ahead := range tails() {
			if got, e := pack.AppendNumber(ahead, n); e != api.ErrArg || len(got) != 0 {
				t.Error(n, got, e)
			}
		}
	}
}

// spread: numbers of all lengths, the least ones one by one.
func spread() []int {
	var list []int
	for n := range 1<<16 + 3 {
		list = append(list, n)
	}
	for bit := 16; bit < 63; bit++ {
		for _, by := range []int{-129, -128, -127, -1, 0, 1, 126, 127, 128, 0x1234} {
			list = append(list, 1<<bit+by, math.MaxInt-1<<bit-by&0xffff)
		}
	}
	return list
}

// checkBytes: are these the bytes of a number, by the document's words?
func checkBytes(t *testing.T, n int, b []byte) {
	t.Helper()
	sum := new(big.Int)
	for i := len(b) - 1; i >= 0; i-- {
		sum.Add(sum.Lsh(sum, 7), big.NewInt(int64(b[i]%128)))
	}
	last := len(b) - 1
	switch {
	case len(b) < 1 || len(b) > 9:
		t.Fatalf("%d: %x: from one byte to nine", n, b)
	case sum.Cmp(big.NewInt(int64(n))) != 0:
		t.Fatalf("%d: %x: another number", n, b)
	case b[last] >= 128 || last > 0 && b[last] == 0:
		t.Fatalf("%d: %x: the last byte", n, b)
	}
	for _, x := range b[:last] {
		if x < 128 {
			t.Fatalf("%d: %x: a byte ahead of the last one", n, b)
		}
	}
}

// P5.1, P5.2: numbers of all lengths are laid as the document's words say, and read as they were.
func TestNumbersThereAndBack(t *testing.T) {
	for i, n := range spread() {
		b, e := pack.AppendNumber(nil, n)
		if e != api.OK {
			t.Fatal(n, e)
		}
		checkBytes(t, n, b)
		if got := pack.Len(n); got != len(b) {
			t.Fatal("Len", n, got)
		}
		behind := tails()[i%len(tails())]
		if got, size, e := pack.Number(slices.Concat(b, behind)); got != n || size != len(b) || e != api.OK {
			t.Fatalf("%d, with %x behind: %d %d %d", n, behind, got, size, e)
		}
	}
}

// readNumber: what the document says of bytes that are read as a number.
func readNumber(b []byte) (n, size int, e api.Errno) {
	first := slices.IndexFunc(b[:min(9, len(b))], func(x byte) bool { return x&128 == 0 })
	switch {
	case first < 0 && len(b) < 9:
		return 0, 0, api.ErrShort
	case first < 0, b[first] == 0 && first > 0:
		return 0, 0, api.ErrForm
	}
	for i := first; i >= 0; i-- {
		n = n*128 + int(b[i])%128
	}
	return n, first + 1, api.OK
}

// readRow: what the document says of bytes that are read as a row.
func readRow(b []byte, most int) (row []byte, size int, e api.Errno) {
	n, head, e := readNumber(b)
	switch {
	case most < 0:
		return nil, 0, api.ErrArg
	case e != api.OK:
		return nil, 0, e
	case n > most:
		return nil, 0, api.ErrForm
	}
	rest := b[head:]
	if len(rest) < n {
		return nil, 0, api.ErrShort
	}
	return rest[:n], head + n, api.OK
}

// checkNumber: is what is read what the document says, and, laid again, the same bytes?
func checkNumber(t *testing.T, b []byte) {
	t.Helper()
	n, size, e := pack.Number(b)
	if wantN, wantSize, wantE := readNumber(b); n != wantN || size != wantSize || e != wantE {
		t.Fatalf("Number(%x): %d %d %d, not %d %d %d", b, n, size, e, wantN, wantSize, wantE)
	}
	if e != api.OK {
		return
	}
	if again, f := pack.AppendNumber(nil, n); f != api.OK || !bytes.Equal(again, b[:size]) {
		t.Fatalf("Number(%x), laid again: %x %d", b, again, f)
	}
}

// checkRow: is what is read what the document says, and, laid again, the same bytes?
func checkRow(t *testing.T, b []byte, most int) {
	t.Helper()
	row, size, e := pack.Row(b, most)
	if wantRow, wantSize, wantE := readRow(b, most); !bytes.Equal(row, wantRow) || size != wantSize || e != wantE {
		t.Fatalf("Row(%x, %d): %x %d %d, not %x %d %d", b, most, row, size, e, wantRow, wantSize, wantE)
	}
	if e != api.OK {
		return
	}
	if again := pack.AppendRow(nil, row); !bytes.Equal(again, b[:size]) {
		t.Fatalf("Row(%x, %d), laid again: %x", b, most, again)
	}
}

// forAll: all lists of so many bytes from a pool, each in one memory that is written over by the next.
func forAll(size int, pool []byte, see func(b []byte)) {
	b := make([]byte, size)
	var fill func(i int)
	fill = func(i int) {
		if i == size {
			see(b)
			return
		}
		for _, x := range pool {
			b[i] = x
			fill(i + 1)
		}
	}
	fill(0)
}

func everyByte() []byte {
	var list []byte
	for x := range 256 {
		list = append(list, byte(x))
	}
	return list
}

// P5.1, P5.2: each list of up to two bytes, read as a number and as a row.
func TestAllShortBytes(t *testing.T) {
	for size := range 3 {
		forAll(size, everyByte(), func(b []byte) {
			checkNumber(t, b)
			for _, most := range []int{-1, 0, 1, 2, 127, 128, math.MaxInt} {
				checkRow(t, b, most)
			}
		})
	}
}

// P5.1, P5.2: longer lists of the bytes at the edges.
func TestLongerBytesAtTheEdges(t *testing.T) {
	for size := 3; size <= 6; size++ {
		forAll(size, []byte{0, 1, 2, 0x7f, 0x80, 0xff}, func(b []byte) {
			checkNumber(t, b)
			checkRow(t, b, 2)
			checkRow(t, b, math.MaxInt)
		})
	}
	for size := 7; size <= 11; size++ {
		forAll(size, []byte{0, 0x80, 0xff}, func(b []byte) {
			checkNumber(t, b)
			checkRow(t, b, math.MaxInt)
		})
	}
}

// P5.1: one byte of each kind behind rows of bytes with the bit 128, up to more than nine.
func TestEachLastByte(t *testing.T) {
	for ahead := range 13 {
		for _, bit := range []byte{0x80, 0x81, 0xc0, 0xff} {
			for _, x := range everyByte() {
				for _, behind := range tails() {
					b := slices.Concat(times(ahead, bit, x), behind)
					checkNumber(t, b)
					checkRow(t, b, math.MaxInt)
				}
			}
		}
	}
}

// P5.1: what can't be read as a number, in each of the ways that the document names.
func TestNoNumbers(t *testing.T) {
	for _, c := range []struct {
		why string
		b   []byte
		e   api.Errno
	}{
		{"no bytes at all", nil, api.ErrShort},
		{"no bytes at all", []byte{}, api.ErrShort},
		{"ends too early", []byte{0x80}, api.ErrShort},
		{"ends too early", []byte{0xff}, api.ErrShort},
		{"ends too early", []byte{0xac, 0x82}, api.ErrShort},
		{"ends too early, by one byte", times(8, 0x80), api.ErrShort},
		{"ends too early, by one byte", times(8, 0xff), api.ErrShort},
		{"a last byte 0 that need not be there", []byte{0x80, 0}, api.ErrForm},
		{"a last byte 0 that need not be there", []byte{0xff, 0}, api.ErrForm},
		{"a last byte 0 that need not be there", []byte{0xac, 0x82, 0}, api.ErrForm},
		{"a last byte 0 that need not be there, others behind", []byte{0x80, 0, 1, 1}, api.ErrForm},
		{"a last byte 0 that need not be there, the ninth", times(8, 0xff, 0), api.ErrForm},
		{"a last byte 0 that need not be there, the ninth", times(8, 0x80, 0), api.ErrForm},
		{"nine bytes with the bit 128", times(9, 0x80), api.ErrForm},
		{"nine bytes with the bit 128", times(9, 0xff), api.ErrForm},
		{"nine bytes with the bit 128, one behind", times(9, 0x80, 1), api.ErrForm},
		{"nine bytes with the bit 128, a 0 behind", times(9, 0x80, 0), api.ErrForm},
		{"nine bytes with the bit 128, ten behind", times(19, 0xff), api.ErrForm},
	} {
		if n, size, e := pack.Number(c.b); n != 0 || size != 0 || e != c.e {
			t.Errorf("%s: Number(%x): %d %d %d", c.why, c.b, n, size, e)
		}
		for _, most := range []int{0, 1, math.MaxInt} {
			if row, size, e := pack.Row(c.b, most); len(row) != 0 || size != 0 || e != c.e {
				t.Errorf("%s: Row(%x, %d): %x %d %d", c.why, c.b, most, row, size, e)
			}
		}
	}
}

// P5.1: rows, and what are none, in each of the ways that the document names.
func TestRowsWrittenOut(t *testing.T) {
	for _, c := range []struct {
		why  string
		b    []byte
		most int
		row  []byte
		size int
		e    api.Errno
	}{
		{"no byte, none may be", []byte{0}, 0, nil, 1, api.OK},
		{"no byte, some may be", []byte{0}, 9, nil, 1, api.OK},
		{"no byte, others behind", []byte{0, 7, 7}, 0, nil, 1, api.OK},
		{"one byte", []byte{1, 0}, 1, []byte{0}, 2, api.OK},
		{"fewer than may be", []byte{2, 5, 6}, math.MaxInt, []byte{5, 6}, 3, api.OK},
		{"as many as may be", []byte{3, 5, 6, 7}, 3, []byte{5, 6, 7}, 4, api.OK},
		{"as many as may be, others behind", []byte{3, 5, 6, 7, 8, 9}, 3, []byte{5, 6, 7}, 4, api.OK},
		{"bytes that look like numbers", []byte{2, 0x80, 0xff, 0}, 2, []byte{0x80, 0xff}, 3, api.OK},
		{"one more than may be", []byte{4, 5, 6, 7, 8}, 3, nil, 0, api.ErrForm},
		{"one more than none", []byte{1, 5}, 0, nil, 0, api.ErrForm},
		{"one more than may be, and too short", []byte{4, 5}, 3, nil, 0, api.ErrForm},
		{"one more than may be, and no byte follows", []byte{4}, 3, nil, 0, api.ErrForm},
		{"many more than may be", times(8, 0xff, 0x7f, 1, 2), math.MaxInt - 1, nil, 0, api.ErrForm},
		{"ends too early, by all", []byte{1}, 1, nil, 0, api.ErrShort},
		{"ends too early, by one", []byte{3, 5, 6}, 3, nil, 0, api.ErrShort},
		{"ends too early, by many", []byte{0x80, 1, 5}, 128, nil, 0, api.ErrShort},
		{"ends too early, by the most that can be", times(8, 0xff, 0x7f), math.MaxInt, nil, 0, api.ErrShort},
		{"ends too early, by all but some", times(8, 0xff, 0x7f, 1, 2, 3), math.MaxInt, nil, 0, api.ErrShort},
		{"most below 0", []byte{1, 5}, -1, nil, 0, api.ErrArg},
		{"most below 0, a row of no byte", []byte{0}, -1, nil, 0, api.ErrArg},
		{"most below 0, too short", []byte{9}, -1, nil, 0, api.ErrArg},
		{"most below 0, no bytes at all", nil, math.MinInt, nil, 0, api.ErrArg},
		{"most below 0, bytes of no number", []byte{0x80, 0}, math.MinInt, nil, 0, api.ErrArg},
		{"most below 0, nine bytes with the bit 128", times(9, 0x80), -128, nil, 0, api.ErrArg},
	} {
		if row, size, e := pack.Row(c.b, c.most); !bytes.Equal(row, c.row) || size != c.size || e != c.e {
			t.Errorf("%s: Row(%x, %d): %x %d %d", c.why, c.b, c.most, row, size, e)
		}
	}
}

// P5.1, P5.2: rows of many lengths, laid and read, whatever stands beside them and however many bytes may be.
func TestRowsThereAndBack(t *testing.T) {
	for _, size := range []int{0, 1, 2, 126, 127, 128, 129, 255, 256, 257, 300, 1<<14 - 1, 1 << 14, 1<<14 + 1, 1<<21 - 1, 1 << 21} {
		row := counted(size)
		head, _ := pack.AppendNumber(nil, size)
		checkBytes(t, size, head)
		for _, beside := range tails() {
			if got, want := pack.AppendRow(beside, row), slices.Concat(beside, head, row); !bytes.Equal(got, want) {
				t.Fatal("AppendRow", size, len(beside), len(got))
			}
			b := slices.Concat(head, row, beside)
			for _, most := range []int{size, size + 1, math.MaxInt} {
				if got, n, e := pack.Row(b, most); !bytes.Equal(got, row) || n != len(head)+size || e != api.OK {
					t.Fatal("Row", size, len(beside), most, len(got), n, e)
				}
			}
			for _, most := range []int{0, size - 1} {
				if got, n, e := pack.Row(b, most); size > 0 && (len(got) != 0 || n != 0 || e != api.ErrForm) {
					t.Fatal("Row", size, len(beside), most, len(got), n, e)
				}
			}
		}
		whole := slices.Concat(head, row)
		for cut := max(0, len(whole)-300); cut < len(whole); cut++ {
			if got, n, e := pack.Row(whole[:cut], size); len(got) != 0 || n != 0 || e != api.ErrShort {
				t.Fatal("Row cut", size, cut, len(got), n, e)
			}
		}
	}
	for _, empty := range [][]byte{nil, {}} {
		if got := pack.AppendRow(empty, empty); !bytes.Equal(got, []byte{0}) {
			t.Error(got)
		}
	}
}

// P5.2: numbers and rows one behind the other are read in their order, and laid again the same bytes.
func TestOneBehindTheOther(t *testing.T) {
	var b []byte
	var e api.Errno
	for _, c := range numbers() {
		if b, e = pack.AppendNumber(b, c.n); e != api.OK {
			t.Fatal(c.n, e)
		}
		b = pack.AppendRow(b, c.bytes)
		b = pack.AppendRow(b, nil)
	}
	var again []byte
	rest := b
	row := func(want []byte) {
		got, size, e := pack.Row(rest, len(want))
		if !bytes.Equal(got, want) || e != api.OK {
			t.Fatalf("%x %d, not %x", got, e, want)
		}
		rest, again = rest[size:], pack.AppendRow(again, got)
	}
	for _, c := range numbers() {
		n, size, e := pack.Number(rest)
		if n != c.n || e != api.OK {
			t.Fatal(n, e, c.n)
		}
		rest = rest[size:]
		again, _ = pack.AppendNumber(again, n)
		row(c.bytes)
		row(nil)
	}
	if len(rest) != 0 || !bytes.Equal(again, b) {
		t.Error(len(rest), "left;", len(again), "bytes of", len(b))
	}
}

// roomy: a copy of bytes with spare room, filled with what would be seen if it were changed.
func roomy(b []byte) []byte {
	return append(slices.Clone(b), times(40, 0x5a)...)[:len(b)]
}

// whole: bytes with their spare room.
func whole(b []byte) []byte { return b[:cap(b)] }

// P1 (rule 5): what is handed in stays as it is, its spare room too.
func TestArgumentsStay(t *testing.T) {
	for _, first := range tails() {
		for _, second := range append(tails(), []byte{3, 5, 6, 7}, []byte{3, 5}) {
			a, b := roomy(first), roomy(second)
			wasA, wasB := slices.Clone(whole(a)), slices.Clone(whole(b))
			for _, n := range []int{-1, 0, 127, 128, 300, math.MaxInt} {
				pack.AppendNumber(a, n)
				pack.Row(a, n)
				pack.Row(b, n)
			}
			pack.Number(a)
			pack.Number(b)
			pack.AppendRow(a, b)
			pack.AppendRow(b, a)
			pack.AppendRow(a, a)
			// A row may also stand in the spare room of what it is laid behind.
			pack.AppendRow(a, whole(a)[len(a):])
			pack.AppendRow(a[:len(a)/2], a[len(a)/2:])
			if !bytes.Equal(whole(a), wasA) || !bytes.Equal(whole(b), wasB) {
				t.Fatalf("changed: %x %x", whole(a), whole(b))
			}
		}
	}
}

// P5.1: a row that stands in the spare room of what it is laid behind, or in it, is laid as it was.
func TestRowOfTheSameMemory(t *testing.T) {
	b := counted(60)
	for cut := range 50 {
		want := slices.Concat(b[:cut], []byte{10}, b[cut:cut+10])
		if got := pack.AppendRow(b[:cut], b[cut:cut+10]); !bytes.Equal(got, want) {
			t.Fatalf("%x, not %x", got, want)
		}
		want = slices.Concat(b[:cut+10], []byte{10}, b[cut:cut+10])
		if got := pack.AppendRow(b[:cut+10], b[cut:cut+10]); !bytes.Equal(got, want) {
			t.Fatalf("%x, not %x", got, want)
		}
	}
}

// answers: all bytes that are answered of two lists of them.
func answers(a, b []byte) [][]byte {
	var list [][]byte
	number := func(got []byte, e api.Errno) { list = append(list, got) }
	row := func(got []byte, size int, e api.Errno) { list = append(list, got) }
	for _, n := range []int{0, 127, 128, math.MaxInt} {
		number(pack.AppendNumber(a, n))
		number(pack.AppendNumber(nil, n))
	}
	list = append(list, pack.AppendRow(a, b), pack.AppendRow(b, a), pack.AppendRow(a, nil), pack.AppendRow(nil, b), pack.AppendRow(nil, nil), pack.AppendRow(a, a))
	row(pack.Row(a, math.MaxInt))
	row(pack.Row(a, math.MaxInt))
	row(pack.Row(b, math.MaxInt))
	return list
}

// P1 (rule 5): what is answered shares no memory with an argument, nor with another answer; what a call answers hangs on no earlier one.
func TestAnswersAreNewMemory(t *testing.T) {
	for _, first := range append(tails(), []byte{3, 5, 6, 7}, pack.AppendRow(nil, counted(300))) {
		for _, second := range [][]byte{nil, {0}, {2, 8, 9}} {
			a, b := roomy(first), roomy(second)
			wasA, wasB := slices.Clone(whole(a)), slices.Clone(whole(b))
			want := answers(a, b)
			for i := range want {
				got := answers(a, b)
				for k := range whole(got[i]) {
					whole(got[i])[k] = 0xee
				}
				if !bytes.Equal(whole(a), wasA) || !bytes.Equal(whole(b), wasB) {
					t.Fatal(i, "shares with an argument")
				}
				for k := range want {
					if k != i && !bytes.Equal(got[k], want[k]) {
						t.Fatal(i, "shares with", k)
					}
				}
			}
			for k := range whole(a) {
				whole(a)[k] = 0xdd
			}
			for k := range whole(b) {
				whole(b)[k] = 0xdd
			}
			for i, again := range answers(slices.Clone(wasA)[:len(a)], slices.Clone(wasB)[:len(b)]) {
				if !bytes.Equal(want[i], again) {
					t.Fatal(i, "shares with what was handed in, or hangs on an earlier call")
				}
			}
		}
	}
}
