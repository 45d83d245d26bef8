package journal_test

import (
	"bytes"
	"encoding/binary"
	"hash/crc32"
	"math"
	"math/rand"
	"slices"
	"testing"

	"telltale/api"
	"telltale/disk"
	"telltale/journal"
)

// file: one of these bytes.
func file(number int, b []byte, sure int) api.File {
	return api.File{Number: number, Bytes: b, Sure: sure}
}

// on: a disk of these files.
func on(room int, files ...api.File) api.Disk {
	return api.Disk{Room: room, Files: files}
}

// counted: n bytes, each another one than those beside it.
func counted(n int) []byte {
	list := make([]byte, n)
	for i := range list {
		list[i] = byte(i*7 + i>>8 + 1)
	}
	return list
}

// wordFrame: a payload's frame by layer 7's words.
func wordFrame(p []byte) []byte {
	length := binary.BigEndian.AppendUint32(nil, uint32(len(p)))
	sum := crc32.ChecksumIEEE(slices.Concat(length, p))
	return slices.Concat(length, binary.BigEndian.AppendUint32(nil, sum), p)
}

// frames: those of payloads, one behind the other.
func frames(list ...string) []byte {
	var b []byte
	for _, p := range list {
		b = append(b, wordFrame([]byte(p))...)
	}
	return b
}

// wordWhole: how many bytes the frame has that bytes begin with; 0, if Open would err.
func wordWhole(b []byte) int {
	if len(b) < 8 {
		return 0
	}
	n := int(binary.BigEndian.Uint32(b))
	if n > 1<<20 || len(b) < 8+n || !bytes.Equal(wordFrame(b[8:8+n]), b[:8+n]) {
		return 0
	}
	return 8 + n
}

// wordFormed: is a disk formed, by layer 8's words?
func wordFormed(d api.Disk) bool {
	formed, used := d.Room >= 0 && d.Room <= 1<<24, 0
	for i, f := range d.Files {
		formed = formed && f.Number >= 0 && f.Number <= 1<<20 && f.Sure >= 0 && f.Sure <= len(f.Bytes)
		formed = formed && (i == 0 || d.Files[i-1].Number < f.Number)
		used += len(f.Bytes)
	}
	return formed && used <= d.Room
}

// copyOf: a disk in memory of its own.
func copyOf(d api.Disk) api.Disk {
	d.Files = slices.Clone(d.Files)
	for i, f := range d.Files {
		d.Files[i].Bytes = slices.Clone(f.Bytes)
	}
	return d
}

// allSure: a copy of a disk all of whose bytes are sure.
func allSure(d api.Disk) api.Disk {
	d = copyOf(d)
	for i, f := range d.Files {
		d.Files[i].Sure = len(f.Bytes)
	}
	return d
}

// used: how many bytes the files of a disk have.
func used(d api.Disk) int {
	n := 0
	for _, f := range d.Files {
		n += len(f.Bytes)
	}
	return n
}

// wordLast: what the document says of Last; all of these ask the document's words alone.
func wordLast(d api.Disk) int {
	last := -1
	if wordFormed(d) {
		for _, f := range d.Files {
			last = max(last, f.Number)
		}
	}
	return last
}

func wordStart(d api.Disk, p []byte) (api.Disk, api.Errno) {
	last := wordLast(d)
	switch {
	case !wordFormed(d), len(p) > 1<<20:
		return api.Disk{}, 1
	case last == 1<<20:
		return api.Disk{}, 15
	case used(d)+8+len(p) > d.Room:
		return api.Disk{}, 7
	}
	d = allSure(d)
	number := last + 1
	if last == -1 {
		number = 1
	}
	d.Files = append(d.Files, file(number, wordFrame(p), 0))
	return d, 0
}

func wordAppend(d api.Disk, p []byte) (api.Disk, api.Errno) {
	if !wordFormed(d) {
		return api.Disk{}, 1
	}
	n := len(d.Files)
	if n == 0 {
		return wordStart(d, p)
	}
	if had := len(d.Files[n-1].Bytes); had != 0 && had+8+len(p) > 512 {
		return wordStart(d, p)
	}
	switch {
	case len(p) > 1<<20:
		return api.Disk{}, 1
	case used(d)+8+len(p) > d.Room:
		return api.Disk{}, 7
	}
	d = copyOf(d)
	d.Files[n-1].Bytes = append(d.Files[n-1].Bytes, wordFrame(p)...)
	return d, 0
}

func wordScan(d api.Disk) ([][]byte, api.Disk, api.Errno) {
	if !wordFormed(d) {
		return nil, api.Disk{}, 1
	}
	var records [][]byte
	left := allSure(d)
	for i, f := range left.Files {
		at := 0
		for size := wordWhole(f.Bytes); size > 0; size = wordWhole(f.Bytes[at:]) {
			records = append(records, f.Bytes[at+8:at+size])
			at += size
		}
		if at < len(f.Bytes) {
			left.Files[i] = file(f.Number, f.Bytes[:at], at)
			left.Files = left.Files[:i+1]
			break
		}
	}
	return records, left, 0
}

func wordDrop(d api.Disk) (api.Disk, api.Errno) {
	switch {
	case !wordFormed(d):
		return api.Disk{}, 1
	case len(d.Files) == 0:
		return api.Disk{}, 16
	}
	d = copyOf(d)
	d.Files = slices.DeleteFunc(d.Files, func(f api.File) bool { return f.Number != wordLast(d) })
	return d, 0
}

// sameFile: do two files say the same?
func sameFile(a, b api.File) bool {
	return a.Number == b.Number && bytes.Equal(a.Bytes, b.Bytes) && a.Sure == b.Sure
}

// same: do two disks say the same?
func same(a, b api.Disk) bool {
	return a.Room == b.Room && slices.EqualFunc(a.Files, b.Files, sameFile)
}

// sameRecords: are two lists of records the same?
func sameRecords(a, b [][]byte) bool {
	return slices.EqualFunc(a, b, bytes.Equal)
}

// brief: a disk as a text tells it, long ones by their beginning.
func brief(d api.Disk) any {
	if len(d.Files) > 5 || used(d) > 2000 {
		return len(d.Files)
	}
	return d
}

// checkDisk: is what is answered of a disk what the document says, and formed, and beside an error nothing?
func checkDisk(t *testing.T, what string, d, got api.Disk, e api.Errno, want api.Disk, wantE api.Errno) {
	t.Helper()
	if e != wantE || !same(got, want) {
		t.Fatalf("%s of %v: %v %d, not %v %d", what, brief(d), brief(got), e, brief(want), wantE)
	}
	if e == api.OK && !disk.Formed(got) {
		t.Fatalf("%s of %v: %v isn't formed", what, brief(d), brief(got))
	}
}

// check: does each call answer of a disk, beside these records, what the document says? And what is scanned, is it scanned so again, and does what is appended then stand behind?
func check(t *testing.T, d api.Disk, records ...[]byte) {
	t.Helper()
	if got, want := journal.Last(d), wordLast(d); got != want {
		t.Fatalf("Last(%v): %d, not %d", brief(d), got, want)
	}
	got, e := journal.Drop(d)
	want, wantE := wordDrop(d)
	checkDisk(t, "Drop", d, got, e, want, wantE)
	for _, p := range records {
		got, e := journal.Append(d, p)
		want, wantE := wordAppend(d, p)
		checkDisk(t, "Append", d, got, e, want, wantE)
		got, e = journal.Start(d, p)
		want, wantE = wordStart(d, p)
		checkDisk(t, "Start", d, got, e, want, wantE)
	}
	list, got, e := journal.Scan(d)
	wantList, want, wantE := wordScan(d)
	checkDisk(t, "Scan", d, got, e, want, wantE)
	if !sameRecords(list, wantList) {
		t.Fatalf("Scan of %v: %q, not %q", brief(d), list, wantList)
	}
	if e == api.OK {
		checkScanned(t, got, list, records)
	}
}

// checkScanned: is a disk that was scanned scanned to the same records, and itself? Does what is written then stand behind them?
func checkScanned(t *testing.T, d api.Disk, list, records [][]byte) {
	t.Helper()
	again, left, e := journal.Scan(d)
	if e != api.OK || !same(left, d) || !sameRecords(again, list) {
		t.Fatalf("Scan of %v, scanned again: %q %v %d", brief(d), again, brief(left), e)
	}
	for _, p := range records {
		for _, write := range []func(api.Disk, []byte) (api.Disk, api.Errno){journal.Append, journal.Start} {
			more, e := write(d, p)
			if e != api.OK {
				continue
			}
			got, left, e := journal.Scan(more)
			if e != api.OK || !same(left, allSure(more)) || !sameRecords(got, append(slices.Clone(list), p)) {
				t.Fatalf("%v, scanned, and %q behind: %q %v %d", brief(d), p, got, brief(left), e)
			}
		}
	}
}

// step: what a call answers, if it is no error.
func step(t *testing.T, d api.Disk, e api.Errno) api.Disk {
	t.Helper()
	if e != api.OK {
		t.Fatal(e)
	}
	return d
}

// P9.1: the chapter's examples.
func TestExamples(t *testing.T) {
	d, e := journal.Append(on(1000), counted(600))
	d = step(t, d, e)
	if len(d.Files) != 1 || d.Files[0].Number != 1 || len(d.Files[0].Bytes) != 608 || journal.Last(d) != 1 {
		t.Fatal(d)
	}
	d, e = journal.Append(d, []byte("x"))
	d = step(t, d, e)
	if len(d.Files) != 2 || d.Files[1].Number != 2 || len(d.Files[1].Bytes) != 9 || journal.Last(d) != 2 {
		t.Fatal(d)
	}
	d, e = journal.Append(on(18), []byte("a"))
	d = step(t, d, e)
	d, e = journal.Append(d, []byte("b"))
	d = step(t, d, e)
	if len(d.Files) != 1 || d.Files[0].Number != 1 || len(d.Files[0].Bytes) != 18 || d.Files[0].Sure != 0 {
		t.Fatal(d)
	}
	d, e = disk.Crash(d, 17, 0)
	d = step(t, d, e)
	list, left, e := journal.Scan(d)
	if e != api.OK || !sameRecords(list, [][]byte{[]byte("a")}) || !same(left, on(18, file(1, frames("a"), 9))) {
		t.Fatal(list, left, e)
	}
}

// P9.1: bytes as they are written out.
func TestWrittenOut(t *testing.T) {
	hi := []byte{0, 0, 0, 2, 0x2b, 0x0c, 0x4d, 0x9e, 'h', 'i'}
	none := []byte{0, 0, 0, 0, 0x21, 0x44, 0xdf, 0x1c}
	d, e := journal.Append(on(36), nil)
	d = step(t, d, e)
	if !same(d, on(36, file(1, none, 0))) {
		t.Fatal(d)
	}
	d, e = journal.Append(d, []byte("hi"))
	d = step(t, d, e)
	if !same(d, on(36, file(1, slices.Concat(none, hi), 0))) {
		t.Fatal(d)
	}
	d, e = journal.Start(d, []byte("hi"))
	d = step(t, d, e)
	if !same(d, on(36, file(1, slices.Concat(none, hi), 18), file(2, hi, 0))) {
		t.Fatal(d)
	}
	list, left, e := journal.Scan(d)
	if e != api.OK || !sameRecords(list, [][]byte{{}, []byte("hi"), []byte("hi")}) || !same(left, on(36, file(1, slices.Concat(none, hi), 18), file(2, hi, 10))) {
		t.Fatal(list, left, e)
	}
	d, e = journal.Append(d, nil)
	d = step(t, d, e)
	if got, e := journal.Append(d, nil); e != api.ErrNoSpace || !same(got, api.Disk{}) {
		t.Fatal(got, e)
	}
	d, e = journal.Drop(d)
	d = step(t, d, e)
	if !same(d, on(36, file(2, slices.Concat(hi, none), 0))) {
		t.Fatal(d)
	}
}

// P9.1: of nothing.
func TestEmptyDisk(t *testing.T) {
	for _, d := range []api.Disk{{}, on(7), on(8), on(9), on(0, []api.File{}...), on(api.MaxRoom)} {
		check(t, d, nil, []byte{}, []byte("a"), counted(504), counted(505))
		if journal.Last(d) != -1 {
			t.Error(journal.Last(d))
		}
		if got, e := journal.Drop(d); e != api.ErrNone || !same(got, api.Disk{}) {
			t.Error(got, e)
		}
		if list, left, e := journal.Scan(d); e != api.OK || len(list) != 0 || !same(left, d) {
			t.Error(list, left, e)
		}
	}
}

// unformed: disks that aren't formed, in each of the ways that layer 8 names.
func unformed() []api.Disk {
	a := frames("a")
	return []api.Disk{
		on(-1),
		on(math.MinInt),
		on(api.MaxRoom + 1),
		on(math.MaxInt, file(1, a, 0)),
		on(8, file(1, a, 0)),
		on(17, file(1, a, 9), file(2, a, 9)),
		on(99, file(-1, a, 0)),
		on(99, file(math.MinInt, nil, 0)),
		on(99, file(api.MaxFiles+1, a, 0)),
		on(99, file(math.MaxInt, nil, 0)),
		on(99, file(1, a, 0), file(1, a, 0)),
		on(99, file(2, a, 9), file(1, a, 9)),
		on(99, file(api.MaxFiles, a, 9), file(1, a, 9)),
		on(99, file(1, a, 10)),
		on(99, file(1, a, -1)),
		on(99, file(1, nil, 1)),
		on(99, file(1, nil, -1), file(2, a, 0)),
		on(99, file(1, a, math.MaxInt)),
	}
}

// P9.1: a disk that isn't formed is refused by all, whatever else is wrong; Last says that there is none.
func TestUnformed(t *testing.T) {
	for _, d := range unformed() {
		check(t, d, nil, []byte("a"), counted(600), make([]byte, api.MaxFrame+1))
		_, appended := journal.Append(d, nil)
		_, started := journal.Start(d, nil)
		_, _, scanned := journal.Scan(d)
		_, dropped := journal.Drop(d)
		for _, e := range []api.Errno{appended, started, scanned, dropped} {
			if e != api.ErrArg {
				t.Errorf("%v: %d", d, e)
			}
		}
		if journal.Last(d) != -1 {
			t.Errorf("%v: last %d", d, journal.Last(d))
		}
	}
}

// segments: what a segment may hold, right and wrong.
func segments() [][]byte {
	spoilt := frames("ab", "c")
	spoilt[9] ^= 1
	long := frames("x")
	long[0] = 1
	return [][]byte{
		nil,
		frames(""),
		frames("ab", "", "c"),
		{0},
		frames("d")[:8],
		append(frames("ef"), 7),
		spoilt,
		long,
		append(frames("g"), make([]byte, 8)...),
	}
}

// someFiles: of each thing that a segment may hold one that is sure as far as it goes, and in part, and not.
func someFiles(numbers ...int) []api.File {
	var list []api.File
	for _, number := range numbers {
		for _, b := range segments() {
			for _, sure := range []int{0, len(b) / 2, len(b)} {
				if len(list) == 0 || !sameFile(list[len(list)-1], file(number, b, sure)) {
					list = append(list, file(number, b, sure))
				}
			}
		}
	}
	return list
}

// P9.1, P9.3: each call of all disks of up to two segments, right and wrong ones.
func TestSmallJournals(t *testing.T) {
	lists := [][]api.File{nil}
	pool := someFiles(0, 1, 5, api.MaxFiles-1, api.MaxFiles)
	for _, a := range pool {
		lists = append(lists, []api.File{a})
		for _, b := range pool {
			lists = append(lists, []api.File{a, b})
		}
	}
	for _, list := range lists {
		n := used(on(0, list...))
		for _, room := range []int{n - 1, n + 7, n + 8, n + 9, n + 10, 5000} {
			check(t, on(room, list...), nil, []byte("a"), []byte("bc"))
		}
	}
}

// P9.1, P9.3: each call of journals of three and four segments, of which any is the one that isn't whole.
func TestMoreSegments(t *testing.T) {
	for i, a := range segments() {
		for k, b := range segments() {
			for m, c := range segments() {
				d := on(4000, file(0, a, len(a)), file(3, b, len(b)), file(4, c, i*k%(len(c)+1)))
				check(t, d, []byte("h"), counted(600))
				d.Files = append(d.Files, file(70000, frames("tail", "end"), m))
				check(t, d, []byte("h"), counted(600))
			}
		}
	}
}

// P9.1: a segment is filled up to 512 bytes, and only one record that begins it may be longer.
func TestSegmentIsFull(t *testing.T) {
	for _, had := range []int{0, 1, 7, 8, 9, 100, 200, 256, 494, 495, 496, 502, 503, 504, 505, 511, 512, 513, 600, 5000} {
		for _, size := range []int{0, 1, 2, 3, 7, 8, 9, 100, 248, 249, 295, 296, 297, 304, 403, 404, 405, 495, 496, 497, 502, 503, 504, 505, 511, 512, 513, 600, 5000} {
			for _, spare := range []int{-1, 0, 1, 4000} {
				room := had + 8 + size + spare
				b := counted(had)
				check(t, on(room, file(1, b, 0)), counted(size))
				check(t, on(room, file(1, b, had/2)), counted(size))
				check(t, on(room+20, file(3, counted(20), 4), file(9, b, had)), counted(size))
			}
		}
	}
}

// P9.1: what stands in a segment is counted, not which records they are: written out.
func TestFullWrittenOut(t *testing.T) {
	for _, c := range []struct {
		had, size, segments int
	}{
		{0, 0, 1}, {0, 504, 1}, {0, 505, 1}, {0, 100000, 1},
		{8, 496, 1}, {8, 497, 2}, {8, 600, 2},
		{503, 1, 1}, {503, 2, 2}, {504, 0, 1}, {504, 1, 2}, {505, 0, 2},
		{512, 0, 2}, {608, 0, 2}, {608, 1, 2},
	} {
		d, e := journal.Append(on(200000, file(4, counted(c.had), c.had)), counted(c.size))
		d = step(t, d, e)
		if len(d.Files) != c.segments || journal.Last(d) != 3+c.segments || used(d) != c.had+8+c.size {
			t.Errorf("%d bytes, and %d: %d segments, %d", c.had, c.size, len(d.Files), used(d))
		}
		if d.Files[0].Sure != c.had || c.segments == 2 && d.Files[1].Sure != 0 {
			t.Errorf("%d bytes, and %d: sure %v", c.had, c.size, d.Files[0].Sure)
		}
	}
}

// P9.1: a new segment makes all others sure; a record in the last one none.
func TestWhatIsSure(t *testing.T) {
	a := frames("abc", "def")
	d := on(2000, file(1, a, 3), file(2, a, 0), file(6, a, 22), file(7, a, 5))
	behind := slices.Concat(a, frames("x"))
	got, e := journal.Append(d, []byte("x"))
	if e != api.OK || !same(got, on(2000, file(1, a, 3), file(2, a, 0), file(6, a, 22), file(7, behind, 5))) {
		t.Fatal(got, e)
	}
	got, e = journal.Start(d, []byte("x"))
	if want := on(2000, file(1, a, 22), file(2, a, 22), file(6, a, 22), file(7, a, 22), file(8, frames("x"), 0)); e != api.OK || !same(got, want) {
		t.Fatal(got, e)
	}
	got, e = journal.Append(d, counted(600))
	if want := on(2000, file(1, a, 22), file(2, a, 22), file(6, a, 22), file(7, a, 22), file(8, wordFrame(counted(600)), 0)); e != api.OK || !same(got, want) {
		t.Fatal(got, e)
	}
	got, e = journal.Drop(d)
	if e != api.OK || !same(got, on(2000, file(7, a, 5))) {
		t.Fatal(got, e)
	}
	list, got, e := journal.Scan(d)
	if e != api.OK || len(list) != 8 || !same(got, allSure(d)) {
		t.Fatal(list, got, e)
	}
}

// P9.1: the number of a new segment.
func TestNewNumber(t *testing.T) {
	for _, c := range []struct {
		had  []int
		want int
	}{
		{nil, 1}, {[]int{0}, 1}, {[]int{1}, 2}, {[]int{0, 1}, 2}, {[]int{3}, 4}, {[]int{0, 9}, 10}, {[]int{5, 7, 8}, 9},
		{[]int{api.MaxFiles - 2}, api.MaxFiles - 1}, {[]int{2, api.MaxFiles - 1}, api.MaxFiles},
	} {
		d := on(2000)
		for _, n := range c.had {
			d.Files = append(d.Files, file(n, counted(510), 0))
			d.Room += 510
		}
		for _, write := range []func(api.Disk, []byte) (api.Disk, api.Errno){journal.Append, journal.Start} {
			got, e := write(d, []byte("a"))
			if e != api.OK || journal.Last(got) != c.want || len(got.Files) != len(c.had)+1 {
				t.Errorf("behind %v: %d %d", c.had, journal.Last(got), e)
			}
		}
		check(t, d, nil, counted(700))
	}
}

// P9.1: which error comes first.
func TestErrorsInOrder(t *testing.T) {
	long := make([]byte, api.MaxFrame+1)
	full := on(9, file(api.MaxFiles, frames("a"), 0))
	empty := on(9, file(api.MaxFiles, nil, 0))
	wrong := on(8, file(api.MaxFiles, frames("a"), 0))
	ask := func(d api.Disk, e api.Errno) api.Errno {
		if e != api.OK && !same(d, api.Disk{}) {
			t.Errorf("beside %d: %v", e, d)
		}
		return e
	}
	for _, c := range []struct {
		why       string
		got, want api.Errno
	}{
		{"Start: not formed, too long, the last number", ask(journal.Start(wrong, long)), api.ErrArg},
		{"Start: too long, the last number, no room", ask(journal.Start(full, long)), api.ErrArg},
		{"Start: the last number, no room", ask(journal.Start(full, counted(600))), api.ErrMany},
		{"Start: the last number, room", ask(journal.Start(on(99, full.Files...), nil)), api.ErrMany},
		{"Start: the last number, a segment of no bytes", ask(journal.Start(empty, nil)), api.ErrMany},
		{"Start: no room", ask(journal.Start(on(9, file(1, frames("a"), 0)), nil)), api.ErrNoSpace},
		{"Start: too long for an empty disk without room", ask(journal.Start(on(0), long)), api.ErrArg},
		{"Start: no room on an empty disk", ask(journal.Start(on(7), nil)), api.ErrNoSpace},
		{"Append: not formed, too long", ask(journal.Append(wrong, long)), api.ErrArg},
		{"Append: too long for a segment with bytes, the last number", ask(journal.Append(full, long)), api.ErrArg},
		{"Append: too long for a segment of no bytes", ask(journal.Append(empty, long)), api.ErrArg},
		{"Append: too long for an empty disk", ask(journal.Append(on(0), long)), api.ErrArg},
		{"Append: a new segment behind the last number, no room", ask(journal.Append(full, counted(600))), api.ErrMany},
		{"Append: a new segment behind the last number, room", ask(journal.Append(on(9999, full.Files...), counted(600))), api.ErrMany},
		{"Append: in the last segment there can be, no room", ask(journal.Append(full, nil)), api.ErrNoSpace},
		{"Append: in the last segment there can be, room", ask(journal.Append(on(17, full.Files...), nil)), api.OK},
		{"Append: in the last segment there can be, of no bytes, no room", ask(journal.Append(empty, counted(600))), api.ErrNoSpace},
		{"Append: in the last segment there can be, of no bytes, room", ask(journal.Append(on(608, empty.Files...), counted(600))), api.OK},
		{"Append: a new segment, no room", ask(journal.Append(on(520, file(1, frames("a"), 0)), counted(504))), api.ErrNoSpace},
		{"Append: a new segment, room", ask(journal.Append(on(521, file(1, frames("a"), 0)), counted(504))), api.OK},
		{"Append: no room on an empty disk", ask(journal.Append(on(7), nil)), api.ErrNoSpace},
		{"Append: room on an empty disk", ask(journal.Append(on(8), nil)), api.OK},
		{"Drop: not formed, no segment", ask(journal.Drop(on(-1))), api.ErrArg},
		{"Drop: no segment", ask(journal.Drop(on(1))), api.ErrNone},
	} {
		if c.got != c.want {
			t.Errorf("%s: %d, not %d", c.why, c.got, c.want)
		}
	}
}

// P9.1: the longest record, and one byte more.
func TestLongestRecord(t *testing.T) {
	most, more := counted(api.MaxFrame), counted(api.MaxFrame+1)
	for _, d := range []api.Disk{
		on(api.MaxRoom),
		on(api.MaxFrame + 8),
		on(api.MaxFrame + 7),
		on(api.MaxFrame+8, file(2, nil, 0)),
		on(api.MaxFrame+17, file(2, frames("a"), 0)),
		on(api.MaxFrame+16, file(2, frames("a"), 0)),
		on(api.MaxRoom, file(api.MaxFiles, nil, 0)),
		on(api.MaxRoom, file(api.MaxFiles, frames("a"), 0)),
	} {
		check(t, d, most, more)
	}
	d, e := journal.Append(on(api.MaxRoom), most)
	d = step(t, d, e)
	d, e = journal.Append(d, most)
	d = step(t, d, e)
	if list, left, e := journal.Scan(d); e != api.OK || !sameRecords(list, [][]byte{most, most}) || !same(left, allSure(d)) {
		t.Fatal(len(list), e)
	}
	for _, write := range []func(api.Disk, []byte) (api.Disk, api.Errno){journal.Append, journal.Start} {
		if got, e := write(d, more); e != api.ErrArg || !same(got, api.Disk{}) {
			t.Error(e)
		}
	}
}

// P9.1: a disk of the most bytes.
func TestMostBytes(t *testing.T) {
	row := bytes.Repeat(wordFrame(counted(1016)), api.MaxRoom/1024)
	d := on(api.MaxRoom, file(1, row, 0))
	if list, left, e := journal.Scan(d); e != api.OK || len(list) != api.MaxRoom/1024 || !same(left, allSure(d)) {
		t.Fatal(len(list), e)
	}
	for _, write := range []func(api.Disk, []byte) (api.Disk, api.Errno){journal.Append, journal.Start} {
		if got, e := write(d, nil); e != api.ErrNoSpace || !same(got, api.Disk{}) {
			t.Error(e)
		}
	}
	row[len(row)-1] ^= 1
	if list, left, e := journal.Scan(d); e != api.OK || len(list) != api.MaxRoom/1024-1 || used(left) != api.MaxRoom-1024 {
		t.Fatal(len(list), e)
	}
	bare := bytes.Repeat(frames(""), api.MaxRoom/8)
	if list, left, e := journal.Scan(on(api.MaxRoom, file(1, bare, 0))); e != api.OK || len(list) != api.MaxRoom/8 || used(left) != api.MaxRoom {
		t.Fatal(len(list), e)
	}
}

// P9.1: a disk of as many segments as there are numbers.
func TestMostSegments(t *testing.T) {
	d := on(api.MaxRoom)
	for n := range api.MaxFiles + 1 {
		d.Files = append(d.Files, file(n, nil, 0))
	}
	a := frames("a")
	for _, n := range []int{0, 1, 77777, api.MaxFiles} {
		d.Files[n] = file(n, a, 4)
	}
	if journal.Last(d) != api.MaxFiles {
		t.Fatal(journal.Last(d))
	}
	list, left, e := journal.Scan(d)
	if e != api.OK || len(list) != 4 || !same(left, allSure(d)) {
		t.Fatal(len(list), len(left.Files), e)
	}
	got, e := journal.Drop(d)
	if e != api.OK || !same(got, on(api.MaxRoom, file(api.MaxFiles, a, 4))) {
		t.Fatal(len(got.Files), e)
	}
	got, e = journal.Append(d, []byte("b"))
	if e != api.OK || len(got.Files) != api.MaxFiles+1 || !sameFile(got.Files[api.MaxFiles], file(api.MaxFiles, frames("a", "b"), 4)) {
		t.Fatal(len(got.Files), e)
	}
	if got, e = journal.Start(d, nil); e != api.ErrMany || !same(got, api.Disk{}) {
		t.Fatal(len(got.Files), e)
	}
	d.Files[5] = file(5, a[:8], 8)
	list, left, e = journal.Scan(d)
	if e != api.OK || len(list) != 2 || len(left.Files) != 6 || !sameFile(left.Files[5], file(5, nil, 0)) {
		t.Fatal(len(list), len(left.Files), e)
	}
}

// P9.1, P9.3: segments that end too early anywhere, or of which any byte is another one.
func TestScanOfSpoilt(t *testing.T) {
	parts := [][]byte{frames("first", ""), frames("second", "third", "x"), frames("last", "of all")}
	build := func() api.Disk {
		d := on(5000)
		for i, b := range parts {
			d.Files = append(d.Files, file(2*i+1, slices.Clone(b), i))
		}
		return d
	}
	for i, b := range parts {
		for at := range b {
			d := build()
			d.Files[i].Bytes = d.Files[i].Bytes[:at]
			d.Files[i].Sure = 0
			check(t, d, []byte("y"))
			for _, turn := range []byte{1, 2, 0x40, 0x80, 0xff} {
				d := build()
				d.Files[i].Bytes[at] ^= turn
				check(t, d, []byte("y"), counted(600))
			}
		}
		for _, behind := range [][]byte{{0}, make([]byte, 7), make([]byte, 8), counted(30), b[:9]} {
			d := build()
			d.Files[i].Bytes = append(d.Files[i].Bytes, behind...)
			check(t, d, []byte("y"))
		}
	}
}

// P9.1: what is cut and removed by a scan, written out.
func TestScanWrittenOut(t *testing.T) {
	a, b := frames("a", "b"), frames("c", "d")
	torn := b[:12]
	got := func(d api.Disk) string {
		list, left, e := journal.Scan(d)
		if e != api.OK || left.Room != d.Room {
			t.Fatal(e)
		}
		text := string(bytes.Join(list, nil))
		for _, f := range left.Files {
			if f.Sure != len(f.Bytes) {
				t.Errorf("%v: not sure", f)
			}
			text += " " + string(rune('0'+f.Number)) + ":" + string(rune('0'+len(f.Bytes)/9))
		}
		return text
	}
	for _, c := range []struct {
		d    api.Disk
		want string
	}{
		{on(99, file(1, a, 0), file(2, b, 3)), "abcd 1:2 2:2"},
		{on(99, file(1, a, 0), file(2, torn, 12), file(3, a, 18)), "abc 1:2 2:1"},
		{on(99, file(1, torn, 0), file(2, b, 18), file(3, a, 18)), "c 1:1"},
		{on(99, file(1, a, 0), file(2, torn[:8], 8), file(3, a, 18)), "ab 1:2 2:0"},
		{on(99, file(1, torn[:1], 0), file(2, b, 18)), " 1:0"},
		{on(99, file(1, a, 0), file(2, nil, 0), file(3, a, 18), file(4, nil, 0)), "abab 1:2 2:0 3:2 4:0"},
		{on(99, file(0, a, 18), file(7, torn, 12)), "abc 0:2 7:1"},
	} {
		if text := got(c.d); text != c.want {
			t.Errorf("%v: %q, not %q", c.d, text, c.want)
		}
	}
}

// act: a call that writes a record, or a sync.
type act struct {
	kind int // of these
	p    []byte
}

const (
	doAppend = iota
	doStart
	doSync
)

// history: a journal, the records that were written to it, and how many of them were written ahead of the last sync.
type history struct {
	d      api.Disk
	list   [][]byte
	synced int
}

// play: what comes of a history by one more act; a record that isn't written by it is none.
func (h history) play(t *testing.T, a act) history {
	t.Helper()
	var d api.Disk
	var e api.Errno
	switch a.kind {
	case doAppend:
		d, e = journal.Append(h.d, a.p)
	case doStart:
		d, e = journal.Start(h.d, a.p)
	case doSync:
		d, e = disk.Sync(h.d)
	}
	if e == api.ErrNoSpace || e == api.ErrMany {
		return h
	}
	if e != api.OK {
		t.Fatal(e)
	}
	h.d = d
	switch a.kind {
	case doSync:
		h.synced = len(h.list)
	case doStart:
		h.synced = len(h.list)
		h.list = append(slices.Clone(h.list), a.p)
	case doAppend:
		h.list = append(slices.Clone(h.list), a.p)
	}
	return h
}

// crash: a history behind a crash and a scan; are its records the first ones of those that were written, and at least all that were synced?
func (h history) crash(t *testing.T, keep, turn int) history {
	t.Helper()
	d, e := disk.Crash(h.d, keep, turn)
	if e != api.OK {
		t.Fatal(e)
	}
	list, left, e := journal.Scan(d)
	if e != api.OK || len(list) < h.synced || len(list) > len(h.list) || !sameRecords(list, h.list[:len(list)]) {
		t.Fatalf("Crash(%d, %x) of %v: %q %d, written %q, of which %d are synced", keep, turn, brief(h.d), list, e, h.list, h.synced)
	}
	again, stays, e := journal.Scan(left)
	if e != api.OK || !same(stays, left) || !sameRecords(again, list) {
		t.Fatalf("Crash(%d, %x) of %v: scanned again %q %d", keep, turn, brief(h.d), again, e)
	}
	return history{left, list, len(list)}
}

// unsure: how many bytes of a disk aren't sure.
func unsure(d api.Disk) int {
	n := 0
	for _, f := range d.Files {
		n += len(f.Bytes) - f.Sure
	}
	return n
}

// crashes: each crash of a history, at each byte, or near the edges of what isn't sure alone.
func (h history) crashes(t *testing.T, turns ...int) {
	t.Helper()
	n := unsure(h.d)
	for keep := range n + 2 {
		if n > 100 && keep > 40 && keep < n-40 && keep%97 != 0 {
			continue
		}
		for _, turn := range turns {
			h.crash(t, keep, turn)
		}
	}
	h.crash(t, math.MaxInt, 0x10)
}

// acts: those of which rows are made.
func acts() []act {
	return []act{{kind: doSync}, {doAppend, nil}, {doAppend, []byte("a")}, {doAppend, counted(488)}, {doAppend, counted(520)}, {doStart, []byte("bc")}}
}

// P9.2: all rows of up to four appends, starts and syncs, each with crashes at all places where frames end or begin.
func TestABeginningIsLeft(t *testing.T) {
	var walk func(h history, left int)
	walk = func(h history, left int) {
		h.crashes(t, 0, 1, 0x80)
		if left == 0 {
			return
		}
		for _, a := range acts() {
			walk(h.play(t, a), left-1)
		}
	}
	walk(history{d: on(4000)}, 4)
	walk(history{d: on(540)}, 4)
	walk(history{d: on(api.MaxRoom, file(4, nil, 0))}, 3)
	walk(history{d: on(4000, file(api.MaxFiles-1, nil, 0))}, 3)
}

// P9.2: each byte that a crash may keep last, turned by each number.
func TestEachTurn(t *testing.T) {
	h := history{d: on(2000)}
	for _, p := range []string{"sure", "", "unsure", "x", "", "and more"} {
		h = h.play(t, act{doAppend, []byte(p)})
		if p == "sure" {
			h = h.play(t, act{kind: doSync})
		}
	}
	for keep := range unsure(h.d) + 1 {
		for turn := range 256 {
			h.crash(t, keep, turn)
		}
	}
}

// P9.2: what a crash keeps whole is left: just as many records as were whole, but for the one that was turned.
func TestWholeRecordsAreLeft(t *testing.T) {
	h := history{d: on(2000)}
	for range 5 {
		h = h.play(t, act{doAppend, []byte("abc")})
	}
	for keep := range unsure(h.d) + 1 {
		if n := len(h.crash(t, keep, 0).list); n != keep/11 {
			t.Errorf("%d bytes kept: %d records", keep, n)
		}
		if n := len(h.crash(t, keep, 4).list); n != max(keep-1, 0)/11 {
			t.Errorf("%d bytes kept, the last one turned: %d records", keep, n)
		}
	}
}

// P9.2, P9.3: long histories, with crash upon crash: what is written behind a scan stands behind what it left.
func TestCrashUponCrash(t *testing.T) {
	for seed := range 150 {
		chance := rand.New(rand.NewSource(int64(seed)))
		h := history{d: on(300 + seed*70)}
		for range 120 {
			p := counted(chance.Intn(30))
			if chance.Intn(12) == 0 {
				p = counted(chance.Intn(700))
			}
			switch chance.Intn(14) {
			case 0:
				h = h.crash(t, chance.Intn(unsure(h.d)+2), chance.Intn(256))
			case 1:
				h = h.play(t, act{kind: doSync})
			case 2:
				h = h.play(t, act{doStart, p})
			case 3:
				h = h.dropped(t)
			default:
				h = h.play(t, act{doAppend, p})
			}
		}
		h.crashes(t, 0, 0x55)
	}
}

// dropped: a history whose disk has room for little more is dropped to its last segment, whose records are the last ones.
func (h history) dropped(t *testing.T) history {
	t.Helper()
	if h.d.Room-used(h.d) > 100 || len(h.d.Files) == 0 {
		return h
	}
	d, e := journal.Drop(h.d)
	if e != api.OK {
		t.Fatal(e)
	}
	list, _, e := journal.Scan(d)
	gone := len(h.list) - len(list)
	if e != api.OK || gone < 0 || !sameRecords(list, h.list[gone:]) {
		t.Fatalf("Drop of %v: %q, written %q", brief(h.d), list, h.list)
	}
	return history{d, list, max(h.synced-gone, 0)}
}

// P9.3: a journal that grows record by record, as it is scanned again and again.
func TestGrows(t *testing.T) {
	d, list := on(1<<20), [][]byte(nil)
	for i := range 400 {
		p := counted(i * 37 % 211)
		var e api.Errno
		d, e = journal.Append(d, p)
		d = step(t, d, e)
		list = append(list, p)
		got, left, e := journal.Scan(d)
		if e != api.OK || !same(left, allSure(d)) || !sameRecords(got, list) {
			t.Fatal(i, e)
		}
		if i%3 == 0 {
			d = left
		}
	}
	for i, f := range d.Files {
		if f.Number != i+1 || len(f.Bytes) > api.Segment || i > 0 && len(d.Files[i-1].Bytes)+wordWhole(f.Bytes) <= api.Segment {
			t.Errorf("segment %d: %d bytes", f.Number, len(f.Bytes))
		}
	}
}

// roomy: a copy of a disk all of whose lists have spare room, filled with what would be seen if it were changed.
func roomy(d api.Disk) api.Disk {
	files := make([]api.File, 0, len(d.Files)+3)
	for _, f := range d.Files {
		f.Bytes = append(slices.Clone(f.Bytes), frames("spare room")...)[:len(f.Bytes)]
		files = append(files, f)
	}
	rest := files[len(files):cap(files)]
	for i := range rest {
		rest[i] = file(90+i, frames("rest"), 2)
	}
	d.Files = files
	return d
}

// whole: a copy of a disk with all its spare room.
func whole(d api.Disk) api.Disk {
	d.Files = slices.Clone(d.Files[:cap(d.Files)])
	for i, f := range d.Files {
		d.Files[i].Bytes = slices.Clone(f.Bytes[:cap(f.Bytes)])
	}
	return d
}

// spoil: all that can be reached of a disk is written over, spare room too.
func spoil(d api.Disk) {
	for _, f := range d.Files[:cap(d.Files)] {
		b := f.Bytes[:cap(f.Bytes)]
		for i := range b {
			b[i] ^= 0xff
		}
	}
	clear(d.Files[:cap(d.Files)])
}

// answers: each disk that is answered of one, twice; records that are answered stand as files of a disk, in order.
func answers(d api.Disk, p []byte) []api.Disk {
	var list []api.Disk
	put := func(got api.Disk, e api.Errno) { list = append(list, got) }
	for range 2 {
		put(journal.Append(d, p))
		put(journal.Append(d, nil))
		put(journal.Start(d, p))
		put(journal.Drop(d))
		records, left, e := journal.Scan(d)
		put(left, e)
		var files []api.File
		for i, b := range records {
			files = append(files, file(i, b, 0))
		}
		put(on(0, files...), e)
	}
	return list
}

// handed: disks that may be handed in.
func handed() []api.Disk {
	return []api.Disk{
		{},
		on(300),
		on(300, file(1, nil, 0)),
		on(300, file(1, frames("abcd", ""), 2)),
		on(300, file(1, frames("abcd", "efg"), 4), file(2, nil, 0), file(5, frames("h", "ij"), 0)),
		on(300, file(1, frames("abcd", "efg")[:20], 4), file(2, frames("k"), 9)),
		on(3000, file(0, frames("abcd"), 3), file(7, counted(512), 500)),
		on(9, file(1, frames("abcd"), 2)),
		on(300, file(api.MaxFiles, frames("lm", "no"), 20)),
	}
}

// P1 (rules 5 and 6): what is handed in stays, its spare room too; what is answered shares no memory with it, nor with another answer; what a call answers hangs on no earlier one.
func TestMemory(t *testing.T) {
	for _, h := range handed() {
		d := roomy(h)
		was := whole(d)
		p := []byte("xyz-spare")[:3]
		want := answers(d, p)
		for i := range want {
			got := answers(d, p)
			spoil(got[i])
			if !same(whole(d), was) || string(p[:9]) != "xyz-spare" {
				t.Fatalf("%v: changed, or %d shares with it", h, i)
			}
			for k := range want {
				if k != i && !same(got[k], want[k]) {
					t.Fatalf("%v: %d shares with %d", h, i, k)
				}
			}
		}
		spoil(d)
		clear(p[:9])
		for i, again := range answers(h, []byte("xyz")) {
			if !same(want[i], again) {
				t.Fatalf("%v: %d shares with what was handed in, or hangs on an earlier call", h, i)
			}
		}
	}
}

// P1 (rule 5): of one answer, too, no two lists share memory, spare room taken in, though those that were handed in do.
func TestListsShareNothing(t *testing.T) {
	row := frames("ab", "ab", "", "ab")
	d := on(300, file(1, row[:20], 1), file(2, row[:30], 1), file(3, row[10:], 0))
	for i, got := range answers(d, row) {
		for k, f := range got.Files {
			want := whole(got)
			copy(f.Bytes[:cap(f.Bytes)], bytes.Repeat([]byte{0xa5}, cap(f.Bytes)))
			for m := range got.Files {
				if m != k && !bytes.Equal(got.Files[m].Bytes, want.Files[m].Bytes[:len(got.Files[m].Bytes)]) {
					t.Fatalf("answer %d: list %d shares with list %d", i, k, m)
				}
			}
			copy(f.Bytes[:cap(f.Bytes)], want.Files[k].Bytes)
		}
	}
	if !bytes.Equal(row, frames("ab", "ab", "", "ab")) {
		t.Error(row)
	}
}

// P9.1: what is cut off or gone can't be reached by the spare room of what is left.
func TestWhatIsLostCantBeReached(t *testing.T) {
	torn := append(frames("a"), "@@@@@@@@@@@@"...)
	d := on(300, file(1, frames("@@"), 10), file(2, torn, 4), file(3, frames("@"), 9))
	seen := func(got api.Disk, e api.Errno) {
		t.Helper()
		if e != api.OK {
			t.Fatal(e)
		}
		for _, f := range got.Files[len(got.Files):cap(got.Files)] {
			if len(f.Bytes) > 0 {
				t.Errorf("what is gone: %q", f.Bytes)
			}
		}
		for _, f := range got.Files {
			if bytes.IndexByte(f.Bytes[len(f.Bytes):cap(f.Bytes)], '@') >= 0 {
				t.Errorf("what is cut off: %q", f.Bytes[:cap(f.Bytes)])
			}
		}
	}
	_, left, e := journal.Scan(d)
	seen(left, e)
	seen(journal.Drop(d))
	seen(journal.Drop(on(300, file(1, torn[:9], 9))))
}
