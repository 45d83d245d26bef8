package frame_test

import (
	"bytes"
	"hash/crc32"
	"slices"
	"testing"

	"telltale/api"
	"telltale/frame"
)

// times: a list of n bytes x, and others behind them.
func times(n int, x byte, behind ...byte) []byte {
	return append(bytes.Repeat([]byte{x}, n), behind...)
}

// counted: n bytes, each another one than those beside it.
func counted(n int) []byte {
	list := make([]byte, n)
	for i := range list {
		list[i] = byte(i*7 + i>>8 + 1)
	}
	return list
}

// wordSum: the sum by the document's words, bit by bit.
func wordSum(b []byte) uint32 {
	sum := uint32(0xffffffff)
	for _, x := range b {
		sum ^= uint32(x)
		for range 8 {
			out := sum % 2
			sum /= 2
			if out == 1 {
				sum ^= 0xedb88320
			}
		}
	}
	return sum ^ 0xffffffff
}

// four: a number's four bytes, the highest first.
func four(n int) []byte {
	return []byte{byte(n / 0x1000000), byte(n / 0x10000), byte(n / 0x100), byte(n)}
}

// number: what four bytes say, the highest first.
func number(b []byte) int {
	n := 0
	for _, x := range b[:4] {
		n = n*256 + int(x)
	}
	return n
}

// built: bytes that stand as a frame's do, with a length and a sum that may be others than the payload's.
func built(length int, sum uint32, payload []byte) []byte {
	return slices.Concat(four(length), four(int(sum)), payload)
}

// wordFrame: a payload's frame by the document's words.
func wordFrame(p []byte) []byte {
	return built(len(p), wordSum(slices.Concat(four(len(p)), p)), p)
}

// wordOpen: what the document says of bytes that are opened.
func wordOpen(b []byte) (p []byte, size int, e api.Errno) {
	if len(b) < 8 {
		return nil, 0, api.ErrShort
	}
	n := number(b)
	switch {
	case n > 1<<20:
		return nil, 0, api.ErrForm
	case len(b[8:]) < n:
		return nil, 0, api.ErrShort
	case int(wordSum(slices.Concat(b[:4], b[8:8+n]))) != number(b[4:]):
		return nil, 0, api.ErrSum
	}
	return b[8 : 8+n], 8 + n, api.OK
}

// wordWhole: what the document says of bytes that must be one frame.
func wordWhole(b []byte) ([]byte, api.Errno) {
	p, _, e := wordOpen(b)
	if (e == api.OK || e == api.ErrSum) && len(b) > 8+number(b) {
		return nil, api.ErrForm
	}
	return p, e
}

// wordCut: what the document says of bytes that are cut.
func wordCut(b []byte) (list [][]byte, size int) {
	p, n, e := wordOpen(b)
	for e == api.OK {
		list, size = append(list, p), size+n
		p, n, e = wordOpen(b[size:])
	}
	return list, size
}

// check: is what is answered of these bytes what the document says, and, sealed again, the same bytes?
func check(t *testing.T, b []byte) {
	t.Helper()
	p, size, e := frame.Open(b)
	if wantP, wantSize, wantE := wordOpen(b); !bytes.Equal(p, wantP) || size != wantSize || e != wantE {
		t.Fatalf("Open(%x): %x %d %d, not %x %d %d", b, p, size, e, wantP, wantSize, wantE)
	}
	w, f := frame.Whole(b)
	if wantP, wantE := wordWhole(b); !bytes.Equal(w, wantP) || f != wantE {
		t.Fatalf("Whole(%x): %x %d, not %x %d", b, w, f, wantP, wantE)
	}
	list, all := frame.Cut(b)
	if wantList, wantAll := wordCut(b); !slices.EqualFunc(list, wantList, bytes.Equal) || all != wantAll {
		t.Fatalf("Cut(%x): %x %d, not %x %d", b, list, all, wantList, wantAll)
	}
	if e != api.OK {
		return
	}
	if again, g := frame.Seal(p); g != api.OK || !bytes.Equal(again, b[:size]) {
		t.Fatalf("Open(%x), sealed again: %x %d", b, again, g)
	}
}

// sizes: of payloads, from nothing on.
func sizes() []int {
	var list []int
	for n := range 70 {
		list = append(list, n)
	}
	return append(list, 127, 128, 255, 256, 257, 504, 505, 511, 512, 513, 600, 1023, 65535, 65536, 65537, 1<<20-1, 1<<20)
}

// payloads: of that many bytes, unlike ones.
func payloads(n int) [][]byte {
	list := [][]byte{counted(n), times(n, 0), times(n, 0xff)}
	if n > 0 {
		list = append(list, times(n-1, 0, 1), append([]byte{0x80}, times(n-1, 0)...))
	}
	return list
}

// tails: what may stand behind a frame, or be taken for one.
func tails() [][]byte {
	return [][]byte{nil, {}, {0}, {1}, {0xff}, times(7, 0), times(8, 0), times(9, 0), times(20, 0xff), times(3, 0, 1), counted(300), wordFrame(nil), wordFrame([]byte("ab")), wordFrame(nil)[:7]}
}

// P7.1: sums, as they are written out.
func TestSumsWrittenOut(t *testing.T) {
	for _, c := range []struct {
		b   []byte
		sum uint32
	}{
		{nil, 0},
		{[]byte{}, 0},
		{[]byte("123456789"), 0xcbf43926},
		{[]byte("a"), 0xe8b7be43},
		{[]byte("abc"), 0x352441c2},
		{[]byte("The quick brown fox jumps over the lazy dog"), 0x414fa339},
		{[]byte{0}, 0xd202ef8d},
		{[]byte{0xff}, 0xff000000},
		{times(4, 0), 0x2144df1c},
		{times(4, 0xff), 0xffffffff},
		{times(32, 0), 0x190a55ad},
		{times(32, 0xff), 0xff6cab0b},
	} {
		if got := frame.Sum(c.b); got != c.sum {
			t.Errorf("Sum(%x): %x, not %x", c.b, got, c.sum)
		}
	}
}

// P7.1: the sums of all lists of up to two bytes, by the document's words.
func TestSumsOfShortBytes(t *testing.T) {
	for x := range 256 {
		for _, b := range [][]byte{{byte(x)}, {0, 0, 0, byte(x)}, {0xff, 0xff, 0xff, 0xff, byte(x)}} {
			if got, want := frame.Sum(b), wordSum(b); got != want {
				t.Fatalf("Sum(%x): %x, not %x", b, got, want)
			}
		}
		for y := range 256 {
			b := []byte{byte(x), byte(y)}
			if got, want := frame.Sum(b), wordSum(b); got != want {
				t.Fatalf("Sum(%x): %x, not %x", b, got, want)
			}
		}
	}
}

// P7.1: the sums of longer lists, by the document's words and by the library's.
func TestSumsOfLongBytes(t *testing.T) {
	for _, n := range append(sizes(), 1<<20+1, 1<<21+5) {
		for _, b := range payloads(n) {
			if got, want := frame.Sum(b), wordSum(b); got != want || got != crc32.ChecksumIEEE(b) {
				t.Fatalf("Sum of %d bytes: %x, not %x", n, got, want)
			}
		}
	}
}

// P7.1: frames, as they are written out.
func TestFramesWrittenOut(t *testing.T) {
	for _, c := range []struct{ p, f []byte }{
		{nil, []byte{0, 0, 0, 0, 0x21, 0x44, 0xdf, 0x1c}},
		{[]byte{}, []byte{0, 0, 0, 0, 0x21, 0x44, 0xdf, 0x1c}},
		{[]byte("a"), []byte{0, 0, 0, 1, 0xe5, 0x8c, 0x97, 0x92, 'a'}},
		{[]byte("hi"), []byte{0, 0, 0, 2, 0x2b, 0x0c, 0x4d, 0x9e, 'h', 'i'}},
	} {
		if got, e := frame.Seal(c.p); e != api.OK || !bytes.Equal(got, c.f) {
			t.Errorf("Seal(%x): %x %d", c.p, got, e)
		}
		if p, size, e := frame.Open(c.f); e != api.OK || size != len(c.f) || !bytes.Equal(p, c.p) {
			t.Errorf("Open(%x): %x %d %d", c.f, p, size, e)
		}
		if p, e := frame.Whole(c.f); e != api.OK || !bytes.Equal(p, c.p) {
			t.Errorf("Whole(%x): %x %d", c.f, p, e)
		}
	}
}

// P7.1, P7.2: what is sealed is the frame of the document's words, and is opened as it was, whatever stands behind.
func TestSealedIsOpened(t *testing.T) {
	for _, n := range sizes() {
		for _, p := range payloads(n) {
			f, e := frame.Seal(p)
			if e != api.OK || !bytes.Equal(f, wordFrame(p)) {
				t.Fatal("Seal", n, len(f), e)
			}
			if got, e := frame.Whole(f); e != api.OK || !bytes.Equal(got, p) {
				t.Fatal("Whole", n, len(got), e)
			}
			for _, behind := range tails() {
				b := slices.Concat(f, behind)
				if got, size, e := frame.Open(b); e != api.OK || size != len(f) || !bytes.Equal(got, p) {
					t.Fatal("Open", n, len(behind), len(got), size, e)
				}
				if got, e := frame.Whole(b); len(behind) > 0 && (e != api.ErrForm || len(got) != 0) {
					t.Fatal("Whole", n, len(behind), len(got), e)
				}
			}
		}
	}
}

// P7.1: a payload has up to MaxFrame bytes; one more is refused, and so are those whose length has the same low bits as a lesser one.
func TestSealsNoMoreThanAFrameHolds(t *testing.T) {
	if f, e := frame.Seal(times(api.MaxFrame, 7)); e != api.OK || len(f) != 8+api.MaxFrame {
		t.Error(len(f), e)
	}
	for _, n := range []int{api.MaxFrame + 1, api.MaxFrame + 2, api.MaxFrame + 256, 2 * api.MaxFrame, 1<<24 - 1, 1 << 24, 1<<24 + 1, 1 << 25} {
		if f, e := frame.Seal(times(n, 7)); e != api.ErrArg || len(f) != 0 {
			t.Error(n, len(f), e)
		}
	}
}

// right: a frame's bytes with the length that is told, and the sum of that length and the payload.
func right(length int, payload []byte) []byte {
	return built(length, wordSum(slices.Concat(four(length), payload)), payload)
}

// wrong: bytes that are no frame, or have others behind it, in each of the ways that the document names; what Open and Whole answer.
func wrong() []struct {
	why         string
	b           []byte
	open, whole api.Errno
} {
	const most = api.MaxFrame
	sum := func(p []byte) uint32 { return wordSum(slices.Concat(four(len(p)), p)) }
	abc := []byte("abc")
	return []struct {
		why         string
		b           []byte
		open, whole api.Errno
	}{
		{"no bytes at all", nil, api.ErrShort, api.ErrShort},
		{"no bytes at all", []byte{}, api.ErrShort, api.ErrShort},
		{"one byte", []byte{0}, api.ErrShort, api.ErrShort},
		{"seven bytes", wordFrame(nil)[:7], api.ErrShort, api.ErrShort},
		{"seven bytes, all set: the length isn't asked yet", times(7, 0xff), api.ErrShort, api.ErrShort},
		{"seven bytes, the length one above the most", append(four(most+1), 0, 0, 0), api.ErrShort, api.ErrShort},
		{"the length one above the most, no byte follows", right(most+1, nil), api.ErrForm, api.ErrForm},
		{"the length one above the most, all bytes follow", right(most+1, times(most+1, 5)), api.ErrForm, api.ErrForm},
		{"the length one above the most, more follow", right(most+1, times(most+9, 5)), api.ErrForm, api.ErrForm},
		{"the length above the most by its highest byte alone", right(1<<24, nil), api.ErrForm, api.ErrForm},
		{"the length above the most by its highest byte alone, some follow", right(1<<24+3, abc), api.ErrForm, api.ErrForm},
		{"the length above the most by its second byte alone", right(1<<21, nil), api.ErrForm, api.ErrForm},
		{"the length the greatest of 31 bits", right(1<<31-1, abc), api.ErrForm, api.ErrForm},
		{"the length with the highest bit", right(1<<31, abc), api.ErrForm, api.ErrForm},
		{"the length the greatest of 32 bits", right(1<<32-1, abc), api.ErrForm, api.ErrForm},
		{"the length the greatest of 32 bits, all bits set", times(8, 0xff), api.ErrForm, api.ErrForm},
		{"the length the most, no byte follows", right(most, nil), api.ErrShort, api.ErrShort},
		{"the length the most, one byte less follows", right(most, times(most-1, 5)), api.ErrShort, api.ErrShort},
		{"one byte less follows", wordFrame(abc)[:10], api.ErrShort, api.ErrShort},
		{"no byte follows", wordFrame(abc)[:8], api.ErrShort, api.ErrShort},
		{"one byte less follows, with the sum of those that are there", right(3, abc[:2]), api.ErrShort, api.ErrShort},
		{"one byte less follows, and the sum is another one", built(3, 7, abc[:2]), api.ErrShort, api.ErrShort},
		{"the sum is another one", built(3, sum(abc)+1, abc), api.ErrSum, api.ErrSum},
		{"the sum is another one, by its highest bit", built(3, sum(abc)^1<<31, abc), api.ErrSum, api.ErrSum},
		{"the sum of the payload alone", built(3, wordSum(abc), abc), api.ErrSum, api.ErrSum},
		{"the sum of the payload and then the length", built(3, wordSum(slices.Concat(abc, four(3))), abc), api.ErrSum, api.ErrSum},
		{"the sum of a length with the lowest byte first", built(3, wordSum(append([]byte{3, 0, 0, 0}, abc...)), abc), api.ErrSum, api.ErrSum},
		{"the sum's bits turned", built(3, ^sum(abc), abc), api.ErrSum, api.ErrSum},
		{"the sum with the lowest byte first", slices.Concat(four(3), reversed(four(int(sum(abc)))), abc), api.ErrSum, api.ErrSum},
		{"the length with the lowest byte first", slices.Concat([]byte{3, 0, 0, 0}, four(int(sum(abc))), abc), api.ErrForm, api.ErrForm},
		{"the sum ahead of the length", slices.Concat(four(int(sum(abc))), four(3), abc), api.ErrForm, api.ErrForm},
		{"eight bytes 0", times(8, 0), api.ErrSum, api.ErrSum},
		{"the most bytes, the sum is another one", built(most, 0, times(most, 5)), api.ErrSum, api.ErrSum},
		{"a byte behind", append(wordFrame(abc), 0), api.OK, api.ErrForm},
		{"a frame behind", append(wordFrame(abc), wordFrame(nil)...), api.OK, api.ErrForm},
		{"a byte behind a frame of nothing", append(wordFrame(nil), 0), api.OK, api.ErrForm},
		{"a byte behind the most bytes", append(wordFrame(times(most, 5)), 0), api.OK, api.ErrForm},
		{"a byte behind, and the sum is another one", append(built(3, 7, abc), 0), api.ErrSum, api.ErrForm},
		{"a byte behind, with the sum of all", right(3, []byte("abcd")), api.ErrSum, api.ErrForm},
		{"many bytes 0", times(40, 0), api.ErrSum, api.ErrForm},
		{"a frame", wordFrame(abc), api.OK, api.OK},
		{"a frame of nothing", wordFrame(nil), api.OK, api.OK},
		{"a frame of the most bytes", wordFrame(times(most, 5)), api.OK, api.OK},
	}
}

func reversed(b []byte) []byte {
	slices.Reverse(b)
	return b
}

// P7.1: what isn't a frame, or not one alone, and which error comes first.
func TestNoFrames(t *testing.T) {
	for _, c := range wrong() {
		p, size, e := frame.Open(c.b)
		if e != c.open || e != api.OK && (len(p) != 0 || size != 0) {
			t.Errorf("%s: Open: %d bytes, %d, %d", c.why, len(p), size, e)
		}
		p, e = frame.Whole(c.b)
		if e != c.whole || e != api.OK && len(p) != 0 {
			t.Errorf("%s: Whole: %d bytes, %d", c.why, len(p), e)
		}
		list, size := frame.Cut(c.b)
		if c.open != api.OK && (len(list) != 0 || size != 0) {
			t.Errorf("%s: Cut: %d frames, %d", c.why, len(list), size)
		}
		check(t, c.b)
	}
}

// forAll: all lists of so many bytes from a pool, each in one memory that is written over by the next.
func forAll(b []byte, at, size int, pool []byte, see func()) {
	if size == 0 {
		see()
		return
	}
	for _, x := range pool {
		b[at] = x
		forAll(b, at+1, size-1, pool, see)
	}
}

// P7.1: all lengths of bytes at the edges, ahead of a right sum and of another one, with some bytes behind.
func TestEachLength(t *testing.T) {
	pool := []byte{0, 1, 2, 3, 4, 15, 16, 17, 127, 128, 255}
	length := make([]byte, 4)
	forAll(length, 0, 4, pool, func() {
		for _, behind := range [][]byte{nil, {7}, {7, 8, 9}, {7, 8, 9, 0}} {
			n := min(number(length), len(behind))
			check(t, right(number(length), behind[:n]))
			check(t, slices.Concat(length, four(0), behind))
			check(t, slices.Concat(right(number(length), behind[:n]), behind[n:]))
		}
	})
}

// P7.1: all short lists of some bytes, of which few are frames.
func TestShortBytes(t *testing.T) {
	for size := range 10 {
		b := make([]byte, size)
		forAll(b, 0, size, []byte{0, 1, 0xff}, func() { check(t, b) })
	}
	for size := 1; size <= 3; size++ {
		b := append(wordFrame(nil), make([]byte, size)...)
		forAll(b, 8, size, []byte{0, 1, 8, 0x21, 0xff}, func() { check(t, b) })
	}
}

// some: payloads, the frames of which stand one behind the other.
func some() [][][]byte {
	return [][][]byte{
		{},
		{nil},
		{nil, nil, nil},
		{[]byte("a")},
		{[]byte("abc"), nil, []byte("d"), counted(20)},
		{counted(300), []byte{0}, counted(17)},
		{times(8, 0), wordFrame([]byte("within")), wordFrame(nil)},
	}
}

// laid: the frames of payloads, one behind the other, and where each of them ends.
func laid(list [][]byte) (b []byte, ends []int) {
	for _, p := range list {
		f, _ := frame.Seal(p)
		b = append(b, f...)
		ends = append(ends, len(b))
	}
	return b, ends
}

// wholeAt: how many of the frames end at a place or ahead of it.
func wholeAt(ends []int, at int) int {
	k := 0
	for k < len(ends) && ends[k] <= at {
		k++
	}
	return k
}

// checkCut: are the first k frames cut, and no more?
func checkCut(t *testing.T, b []byte, list [][]byte, ends []int, k int) {
	t.Helper()
	size := 0
	if k > 0 {
		size = ends[k-1]
	}
	if got, n := frame.Cut(b); !slices.EqualFunc(got, list[:k], bytes.Equal) || n != size {
		t.Fatalf("Cut(%x): %x %d, not the first %d: %d", b, got, n, k, size)
	}
}

// P7.2: frames one behind the other are cut as they were, cut anywhere those that are whole, whatever stands behind that is no frame.
func TestCutAnywhere(t *testing.T) {
	for _, list := range some() {
		b, ends := laid(list)
		for at := range len(b) + 1 {
			checkCut(t, b[:at], list, ends, wholeAt(ends, at))
			check(t, b[:at])
		}
		for _, behind := range [][]byte{{0}, times(7, 0), times(8, 0), times(30, 0xff), wordFrame([]byte("ab"))[:9], right(5, []byte("four"))} {
			checkCut(t, slices.Concat(b, behind), list, ends, len(list))
		}
	}
}

// P7.2, P7.3: with a byte that is another one the frames ahead of it are cut, and no other one.
func TestCutWhereSpoilt(t *testing.T) {
	for _, list := range some() {
		b, ends := laid(list)
		for at := range b {
			for _, turn := range []byte{1, 2, 0x10, 0x80, 0xff} {
				spoilt := slices.Clone(b)
				spoilt[at] ^= turn
				checkCut(t, spoilt, list, ends, wholeAt(ends, at))
				check(t, spoilt)
			}
		}
	}
}

// P7.1, P7.2: behind a frame that can't be opened nothing is cut, though frames follow.
func TestCutEndsAtTheFirst(t *testing.T) {
	good := wordFrame([]byte("good"))
	for _, bad := range [][]byte{built(3, 7, []byte("bad")), right(api.MaxFrame+1, nil), {0}, times(4, 0), times(8, 0)} {
		b := slices.Concat(good, good, bad, good)
		if list, size := frame.Cut(b); len(list) != 2 || size != 2*len(good) {
			t.Errorf("Cut(%x): %d frames, %d", b, len(list), size)
		}
		check(t, b)
	}
}

// P7.2: many frames, and great ones, are cut as they were.
func TestCutMany(t *testing.T) {
	var list [][]byte
	for n := range 3000 {
		list = append(list, counted(n%100))
	}
	list = append(list, times(api.MaxFrame, 3), nil, times(api.MaxFrame-1, 4), []byte{5})
	b, ends := laid(list)
	checkCut(t, b, list, ends, len(list))
	checkCut(t, b[:len(b)-1], list, ends, len(list)-1)
	empty := bytes.Repeat(wordFrame(nil), 1<<17)
	if got, size := frame.Cut(empty); len(got) != 1<<17 || size != len(empty) {
		t.Error(len(got), size)
	}
}

// P7.3: a frame of which one byte is another one isn't whole, whichever byte, whichever other one.
func TestSpoilt(t *testing.T) {
	for _, n := range []int{0, 1, 2, 3, 4, 7, 8, 9, 16, 31, 64, 255, 256, 257} {
		for _, p := range payloads(n) {
			f, _ := frame.Seal(p)
			for at := range f {
				for turn := 1; turn < 256; turn++ {
					f[at] ^= byte(turn)
					if got, e := frame.Whole(f); e == api.OK || len(got) != 0 {
						t.Fatalf("%d bytes, the one at %d turned by %x: %d", n, at, turn, e)
					}
					f[at] ^= byte(turn)
				}
			}
			if got, e := frame.Whole(f); e != api.OK || !bytes.Equal(got, p) {
				t.Fatal(n, e)
			}
		}
	}
}

// P7.3: so also of a frame of the most bytes.
func TestGreatSpoilt(t *testing.T) {
	f, _ := frame.Seal(counted(api.MaxFrame))
	for _, at := range []int{0, 1, 2, 3, 4, 5, 6, 7, 8, 9, 1000, len(f) / 2, len(f) - 2, len(f) - 1} {
		for _, turn := range []byte{1, 0x80, 0xff} {
			f[at] ^= turn
			if got, e := frame.Whole(f); e == api.OK || len(got) != 0 {
				t.Fatal(at, turn, e)
			}
			f[at] ^= turn
		}
	}
}

// roomy: a copy of bytes with spare room, filled with what would be seen if it were changed.
func roomy(b []byte) []byte {
	return append(slices.Clone(b), times(40, 0x5a)...)[:len(b)]
}

// whole: bytes with their spare room.
func whole(b []byte) []byte { return b[:cap(b)] }

// handed: bytes of all kinds that may be handed in.
func handed() [][]byte {
	two, _ := laid([][]byte{[]byte("abc"), counted(30), nil, {9}})
	return append(tails(), wordFrame([]byte("abc")), wordFrame(counted(300)), two, two[:len(two)-1], append(two, 0), built(3, 7, []byte("bad")))
}

// answers: all bytes that are answered of some.
func answers(b []byte) [][]byte {
	var list [][]byte
	put := func(got []byte, e api.Errno) { list = append(list, got) }
	for range 2 {
		put(frame.Seal(b))
		p, _, e := frame.Open(b)
		put(p, e)
		put(frame.Whole(b))
		cut, _ := frame.Cut(b)
		list = append(list, cut...)
	}
	return list
}

// P1 (rules 5 and 6): what is handed in stays, its spare room too; what is answered shares no memory with it, nor with another answer; what a call answers hangs on no earlier one.
func TestMemory(t *testing.T) {
	for _, b := range handed() {
		a := roomy(b)
		was := slices.Clone(whole(a))
		frame.Sum(a)
		want := answers(a)
		for i := range want {
			got := answers(a)
			for k := range whole(got[i]) {
				whole(got[i])[k] ^= 0xff
			}
			if !bytes.Equal(whole(a), was) {
				t.Fatalf("%x: changed, or %d shares with it", b, i)
			}
			for k := range want {
				if k != i && !bytes.Equal(got[k], want[k]) {
					t.Fatalf("%x: %d shares with %d", b, i, k)
				}
			}
		}
		for k := range whole(a) {
			whole(a)[k] ^= 0xff
		}
		for i, again := range answers(slices.Clone(was)[:len(b)]) {
			if !bytes.Equal(want[i], again) {
				t.Fatalf("%x: %d shares with what was handed in, or hangs on an earlier call", b, i)
			}
		}
	}
}

// P1 (rule 5): the list that Cut answers is new memory, too.
func TestListMemory(t *testing.T) {
	want := some()[4]
	b, _ := laid(want)
	first, _ := frame.Cut(b)
	second, _ := frame.Cut(b)
	clear(first[:cap(first)])
	third, _ := frame.Cut(b)
	for _, list := range [][][]byte{second, third} {
		if !slices.EqualFunc(list, want, bytes.Equal) {
			t.Errorf("%x", list)
		}
	}
}

// P7.1: the spare room of what is handed in says nothing, though it holds the rest of a frame.
func TestSpareRoomSaysNothing(t *testing.T) {
	f := wordFrame([]byte("telltale"))
	two := slices.Concat(f, f)
	for at := range len(two) + 1 {
		check(t, two[:at])
		p, size, e := frame.Open(two[:at:at])
		again, n, g := frame.Open(two[:at])
		if !bytes.Equal(p, again) || size != n || e != g {
			t.Fatal(at, size, n, e, g)
		}
	}
}
