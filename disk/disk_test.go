package disk_test

import (
	"bytes"
	"math"
	"slices"
	"strings"
	"testing"

	"telltale/api"
	"telltale/disk"
)

// file: one of so many bytes, as they stand in a text.
func file(number int, text string, sure int) api.File {
	return api.File{Number: number, Bytes: []byte(text), Sure: sure}
}

// on: a disk of these files.
func on(room int, files ...api.File) api.Disk {
	return api.Disk{Room: room, Files: files}
}

// sameFile: do two files say the same?
func sameFile(a, b api.File) bool {
	return a.Number == b.Number && bytes.Equal(a.Bytes, b.Bytes) && a.Sure == b.Sure
}

// same: do two disks say the same?
func same(a, b api.Disk) bool {
	return a.Room == b.Room && slices.EqualFunc(a.Files, b.Files, sameFile)
}

// cell: a byte that a disk has, and whether it is sure.
type cell struct {
	x    byte
	sure bool
}

// model: a disk by the document's words: the cells of each file that is there.
type model struct {
	room  int
	files map[int][]cell
}

// modelOf: the model of a disk; false, if the disk isn't formed by the document's words.
func modelOf(d api.Disk) (model, bool) {
	m := model{d.Room, map[int][]cell{}}
	formed := d.Room >= 0 && d.Room <= 1<<24
	sum := 0
	for i, f := range d.Files {
		formed = formed && f.Number >= 0 && f.Number <= 1<<20 && f.Sure >= 0 && f.Sure <= len(f.Bytes)
		formed = formed && (i == 0 || d.Files[i-1].Number < f.Number)
		var cells []cell
		for k, x := range f.Bytes {
			cells = append(cells, cell{x, k < f.Sure})
		}
		m.files[f.Number] = cells
		sum += len(f.Bytes)
	}
	return m, formed && sum <= d.Room
}

// numbers: of the files that are there, the least first.
func (m model) numbers() []int {
	var list []int
	for n := range m.files {
		list = append(list, n)
	}
	slices.Sort(list)
	return list
}

// disk: what the model is a model of.
func (m model) disk() api.Disk {
	d := api.Disk{Room: m.room}
	for _, n := range m.numbers() {
		f := api.File{Number: n}
		for _, c := range m.files[n] {
			f.Bytes = append(f.Bytes, c.x)
			if c.sure {
				f.Sure++
			}
		}
		d.Files = append(d.Files, f)
	}
	return d
}

// used: how many cells there are.
func (m model) used() int {
	n := 0
	for _, cells := range m.files {
		n += len(cells)
	}
	return n
}

// wordUsed: what the document says of Used; all of these are of a disk of their own.
func wordUsed(d api.Disk) int {
	m, formed := modelOf(d)
	if !formed {
		return 0
	}
	return m.used()
}

func wordAppend(d api.Disk, number int, b []byte) (api.Disk, api.Errno) {
	m, formed := modelOf(d)
	if !formed || number < 0 || number > 1<<20 {
		return api.Disk{}, 1
	}
	if m.used()+len(b) > m.room {
		return api.Disk{}, 7
	}
	cells := m.files[number]
	for _, x := range b {
		cells = append(cells, cell{x, false})
	}
	m.files[number] = cells
	return m.disk(), 0
}

func wordGet(d api.Disk, number int) ([]byte, api.Errno) {
	m, formed := modelOf(d)
	if !formed {
		return nil, 1
	}
	cells, there := m.files[number]
	if !there {
		return nil, 16
	}
	var b []byte
	for _, c := range cells {
		b = append(b, c.x)
	}
	return b, 0
}

func wordCut(d api.Disk, number, n int) (api.Disk, api.Errno) {
	m, formed := modelOf(d)
	if !formed {
		return api.Disk{}, 1
	}
	cells, there := m.files[number]
	if !there {
		return api.Disk{}, 16
	}
	if n < 0 || n > len(cells) {
		return api.Disk{}, 1
	}
	m.files[number] = cells[:n]
	return m.disk(), 0
}

func wordRemove(d api.Disk, number int) (api.Disk, api.Errno) {
	m, formed := modelOf(d)
	if !formed {
		return api.Disk{}, 1
	}
	if _, there := m.files[number]; !there {
		return api.Disk{}, 16
	}
	delete(m.files, number)
	return m.disk(), 0
}

func wordSync(d api.Disk) (api.Disk, api.Errno) {
	m, formed := modelOf(d)
	if !formed {
		return api.Disk{}, 1
	}
	for _, cells := range m.files {
		for i := range cells {
			cells[i].sure = true
		}
	}
	return m.disk(), 0
}

func wordCrash(d api.Disk, keep, turn int) (api.Disk, api.Errno) {
	m, formed := modelOf(d)
	if !formed || keep < 0 || turn < 0 || turn > 255 {
		return api.Disk{}, 1
	}
	atLast, last := 0, -1
	for _, n := range m.numbers() {
		var left []cell
		for _, c := range m.files[n] {
			if !c.sure {
				if keep == 0 {
					continue
				}
				keep--
				atLast, last = n, len(left)
			}
			left = append(left, cell{c.x, true})
		}
		m.files[n] = left
	}
	if last >= 0 {
		m.files[atLast][last].x ^= byte(turn)
	}
	return m.disk(), 0
}

// checker: what is asked of each call.
type checker struct {
	t *testing.T
	d api.Disk
}

// disks: is a disk that is answered the one that the document says, and formed, and beside an error nothing?
func (c checker) disks(what string, got api.Disk, e api.Errno, want api.Disk, wantE api.Errno, args ...any) {
	c.t.Helper()
	if e != wantE || !same(got, want) {
		c.t.Fatalf("%s of %v, %v: %v %d, not %v %d", what, c.d, args, got, e, want, wantE)
	}
	if e == api.OK && !disk.Formed(got) {
		c.t.Fatalf("%s of %v, %v: %v isn't formed", what, c.d, args, got)
	}
}

// check: does each call answer of a disk, beside these numbers, counts, bytes and turns, what the document says?
func check(t *testing.T, d api.Disk, numbers, counts []int, rows [][]byte, turns []int) {
	t.Helper()
	c := checker{t, d}
	if _, formed := modelOf(d); disk.Formed(d) != formed {
		t.Fatalf("Formed(%v): not %v", d, formed)
	}
	if got, want := disk.Used(d), wordUsed(d); got != want {
		t.Fatalf("Used(%v): %d, not %d", d, got, want)
	}
	got, e := disk.Sync(d)
	want, wantE := wordSync(d)
	c.disks("Sync", got, e, want, wantE)
	for _, number := range numbers {
		c.number(number, counts, rows)
	}
	for _, keep := range counts {
		for _, turn := range turns {
			got, e := disk.Crash(d, keep, turn)
			want, wantE := wordCrash(d, keep, turn)
			c.disks("Crash", got, e, want, wantE, keep, turn)
		}
	}
}

// number: does each call of one file answer what the document says?
func (c checker) number(number int, counts []int, rows [][]byte) {
	c.t.Helper()
	b, e := disk.Get(c.d, number)
	if wantB, wantE := wordGet(c.d, number); e != wantE || !bytes.Equal(b, wantB) {
		c.t.Fatalf("Get(%v, %d): %x %d, not %x %d", c.d, number, b, e, wantB, wantE)
	}
	got, e := disk.Remove(c.d, number)
	want, wantE := wordRemove(c.d, number)
	c.disks("Remove", got, e, want, wantE, number)
	for _, n := range counts {
		got, e := disk.Cut(c.d, number, n)
		want, wantE := wordCut(c.d, number, n)
		c.disks("Cut", got, e, want, wantE, number, n)
	}
	for _, b := range rows {
		got, e := disk.Append(c.d, number, b)
		want, wantE := wordAppend(c.d, number, b)
		c.disks("Append", got, e, want, wantE, number, b)
	}
}

// edges: whole numbers that no disk has, or few.
var edges = []int{math.MinInt, math.MinInt + 1, math.MinInt32, -1 << 20, -2, -1, 1<<16 + 1, 1<<20 - 1, 1 << 20, 1<<20 + 1, 1<<24 - 1, 1 << 24, 1<<24 + 1, math.MaxInt32, 1 << 32, 1<<32 + 1, math.MaxInt - 1, math.MaxInt}

// P8.1: the chapter's example, and others written out.
func TestWrittenOut(t *testing.T) {
	d := api.Disk{Room: 5}
	step := func(got api.Disk, e api.Errno) {
		t.Helper()
		if e != api.OK {
			t.Fatal(e)
		}
		d = got
	}
	step(disk.Append(d, 1, []byte("abc")))
	if !same(d, on(5, file(1, "abc", 0))) {
		t.Fatal(d)
	}
	step(disk.Sync(d))
	step(disk.Append(d, 1, []byte("de")))
	if !same(d, on(5, file(1, "abcde", 3))) || disk.Used(d) != 5 {
		t.Fatal(d)
	}
	step(disk.Crash(d, 1, 0))
	if !same(d, on(5, file(1, "abcd", 4))) {
		t.Fatal(d)
	}
	if b, e := disk.Get(d, 1); e != api.OK || string(b) != "abcd" {
		t.Fatal(b, e)
	}
	if got, e := disk.Append(d, 1, []byte("xyz")); e != api.ErrNoSpace || !same(got, api.Disk{}) {
		t.Fatal(got, e)
	}
	step(disk.Append(d, 0, nil))
	step(disk.Append(d, api.MaxFiles, []byte("e")))
	if !same(d, on(5, file(0, "", 0), file(1, "abcd", 4), file(api.MaxFiles, "e", 0))) {
		t.Fatal(d)
	}
	step(disk.Cut(d, 1, 2))
	step(disk.Remove(d, 0))
	if !same(d, on(5, file(1, "ab", 2), file(api.MaxFiles, "e", 0))) {
		t.Fatal(d)
	}
	if b, e := disk.Get(d, 0); e != api.ErrNone || len(b) != 0 {
		t.Fatal(b, e)
	}
}

// P8.1: what is formed, and what isn't, in each of the ways that the document names.
func TestFormed(t *testing.T) {
	for _, c := range []struct {
		why    string
		d      api.Disk
		formed bool
	}{
		{"nothing", api.Disk{}, true},
		{"no files, an empty list", on(0, []api.File{}...), true},
		{"the most room", on(api.MaxRoom), true},
		{"one more", on(api.MaxRoom + 1), false},
		{"room below 0", on(-1), false},
		{"the least room there can be", on(math.MinInt), false},
		{"the greatest room there can be", on(math.MaxInt), false},
		{"a file of no bytes, without room", on(0, file(3, "", 0)), true},
		{"as many bytes as room", on(3, file(3, "abc", 0)), true},
		{"one more", on(2, file(3, "abc", 0)), false},
		{"one more, all sure", on(2, file(3, "abc", 3)), false},
		{"together as many bytes as room", on(5, file(1, "ab", 0), file(2, "", 0), file(3, "abc", 3)), true},
		{"together one more", on(4, file(1, "ab", 0), file(2, "", 0), file(3, "abc", 3)), false},
		{"one more in the last of three files", on(4, file(1, "ab", 0), file(2, "ab", 0), file(3, "a", 0)), false},
		{"number 0", on(9, file(0, "a", 0)), true},
		{"number -1", on(9, file(-1, "a", 0)), false},
		{"number -1 ahead of others", on(9, file(-1, "", 0), file(0, "a", 0)), false},
		{"the least number there can be", on(9, file(math.MinInt, "", 0)), false},
		{"the greatest number", on(9, file(api.MaxFiles, "a", 1)), true},
		{"one more", on(9, file(api.MaxFiles+1, "a", 1)), false},
		{"one more behind it", on(9, file(api.MaxFiles, "a", 1), file(api.MaxFiles+1, "", 0)), false},
		{"the greatest number there can be", on(9, file(math.MaxInt, "", 0)), false},
		{"the greatest number there can be ahead of others", on(9, file(math.MaxInt, "", 0), file(1, "", 0)), false},
		{"one number twice", on(9, file(1, "a", 0), file(1, "b", 0)), false},
		{"number 0 twice", on(9, file(0, "", 0), file(0, "", 0)), false},
		{"falling numbers", on(9, file(2, "a", 0), file(1, "b", 0)), false},
		{"a number that falls behind others", on(9, file(1, "a", 0), file(7, "b", 0), file(5, "b", 0)), false},
		{"numbers beside one another", on(9, file(1, "a", 0), file(2, "b", 0), file(3, "c", 1)), true},
		{"none sure", on(9, file(1, "abc", 0)), true},
		{"all sure", on(9, file(1, "abc", 3)), true},
		{"one more sure than there are", on(9, file(1, "abc", 4)), false},
		{"one sure of none", on(9, file(1, "", 1)), false},
		{"sure below 0", on(9, file(1, "abc", -1)), false},
		{"sure below 0 in the second file", on(9, file(1, "abc", 3), file(2, "", -1)), false},
		{"as many sure as the first file has, but not the second", on(9, file(1, "abc", 3), file(2, "ab", 3)), false},
		{"the greatest sure there can be", on(9, file(1, "abc", math.MaxInt)), false},
		{"the least sure there can be", on(9, file(1, "abc", math.MinInt)), false},
	} {
		if got := disk.Formed(c.d); got != c.formed {
			t.Errorf("%s: %v", c.why, got)
		}
		if _, formed := modelOf(c.d); formed != c.formed {
			t.Errorf("%s: by the words %v", c.why, formed)
		}
		check(t, c.d, []int{1}, []int{0, 1}, [][]byte{nil, []byte("z")}, []int{1})
	}
}

// someFiles: right and wrong ones of these numbers.
func someFiles(numbers []int) []api.File {
	var list []api.File
	for _, number := range numbers {
		for _, text := range []string{"", "x", "yz"} {
			for sure := -1; sure <= len(text)+1; sure++ {
				list = append(list, file(number, text, sure))
			}
		}
	}
	return list
}

// P8.1: each call of all disks of up to two files from a pool of right and wrong ones, with right and wrong rooms.
func TestSmallDisks(t *testing.T) {
	pool := someFiles([]int{-1, 0, 1, api.MaxFiles, api.MaxFiles + 1})
	lists := [][]api.File{nil, {}}
	for _, a := range pool {
		lists = append(lists, []api.File{a})
		for _, b := range pool {
			lists = append(lists, []api.File{a, b})
		}
	}
	for _, list := range lists {
		for _, room := range []int{-1, 0, 1, 2, 3, 4, 5, api.MaxRoom, api.MaxRoom + 1} {
			checkSmall(t, on(room, list...))
		}
	}
}

// checkSmall: a disk that isn't formed is asked less, since every call refuses it.
func checkSmall(t *testing.T, d api.Disk) {
	t.Helper()
	if _, formed := modelOf(d); !formed {
		check(t, d, []int{-1, 0, 1}, []int{-1, 0, 1}, [][]byte{nil, []byte("p")}, []int{-1, 0, 1})
		return
	}
	rows := [][]byte{nil, {}, []byte("p"), []byte("qr"), []byte("stuvw")}
	check(t, d, []int{-1, 0, 1, 2, api.MaxFiles, api.MaxFiles + 1}, []int{-1, 0, 1, 2, 3, 4, 5}, rows, []int{-1, 0, 1, 0x80, 0xff, 0x100})
}

// P8.1: each call of disks of three and more files, some without bytes.
func TestMoreFiles(t *testing.T) {
	var pool []api.File
	for _, text := range []string{"", "k", "mno"} {
		for sure := range len(text) + 1 {
			pool = append(pool, file(0, text, sure))
		}
	}
	rows := [][]byte{nil, []byte("p"), []byte("qr")}
	for _, a := range pool {
		for _, b := range pool {
			for _, c := range pool {
				for _, e := range []api.File{file(0, "", 0), file(0, "st", 1)} {
					a.Number, b.Number, c.Number, e.Number = 0, 3, 4, 70000
					used := len(a.Bytes) + len(b.Bytes) + len(c.Bytes) + len(e.Bytes)
					for _, room := range []int{used - 1, used, used + 1, used + 2} {
						check(t, on(room, a, b, c, e), []int{0, 1, 3, 4, 5, 70000, 70001}, []int{0, 1, 2, 3, 4, 5, 6, 7, 8, 9, 12}, rows, []int{0, 0x41})
					}
				}
			}
		}
	}
}

// P8.1: whole numbers of any size, wherever one is handed in.
func TestEdges(t *testing.T) {
	rows := [][]byte{nil, []byte("p")}
	for _, d := range []api.Disk{
		{},
		on(4, file(1, "abc", 1)),
		on(api.MaxRoom, file(0, "ab", 2), file(7, "", 0), file(api.MaxFiles, "cde", 1)),
		on(2, file(1, "abc", 1)),
	} {
		check(t, d, append(edges, 0, 1, 7), append(edges, 0, 1, 3), rows, append(edges, 0, 255, 256, 257))
	}
	for _, n := range edges {
		check(t, on(n, file(1, "abc", 1)), []int{0, 1}, []int{0, 1}, rows, []int{1})
		check(t, on(4, file(n, "abc", 1)), []int{0, 1, n}, []int{0, 1}, rows, []int{1})
		check(t, on(4, file(1, "abc", n)), []int{0, 1}, []int{0, 1}, rows, []int{1})
		check(t, on(4, file(n, "", 0), file(n, "", 0)), []int{0, n}, []int{0}, rows, []int{1})
	}
}

// P8.1: which error comes first.
func TestErrorsInOrder(t *testing.T) {
	full := on(3, file(1, "abc", 1))
	wrong := on(2, file(1, "abc", 1))
	long := []byte("abcd")
	ask := func(_ api.Disk, e api.Errno) api.Errno { return e }
	get := func(_ []byte, e api.Errno) api.Errno { return e }
	for _, c := range []struct {
		why       string
		got, want api.Errno
	}{
		{"no number, and no room", ask(disk.Append(full, -1, long)), api.ErrArg},
		{"no number, and room", ask(disk.Append(full, api.MaxFiles+1, nil)), api.ErrArg},
		{"no room in a file that isn't there", ask(disk.Append(full, 0, long)), api.ErrNoSpace},
		{"no bytes on a full disk", ask(disk.Append(full, 0, nil)), api.OK},
		{"not formed, and no room", ask(disk.Append(wrong, 1, long)), api.ErrArg},
		{"Get: a number that no file can have", get(disk.Get(full, -1)), api.ErrNone},
		{"Get: not formed, no such file", get(disk.Get(wrong, 9)), api.ErrArg},
		{"Cut: no such file, and too few bytes", ask(disk.Cut(full, 2, -1)), api.ErrNone},
		{"Cut: no file can have the number, and too many bytes", ask(disk.Cut(full, math.MaxInt, math.MaxInt)), api.ErrNone},
		{"Cut: too many bytes", ask(disk.Cut(full, 1, 4)), api.ErrArg},
		{"Cut: not formed, no such file", ask(disk.Cut(wrong, 9, 0)), api.ErrArg},
		{"Remove: no file can have the number", ask(disk.Remove(full, api.MaxFiles+1)), api.ErrNone},
		{"Remove: not formed, no such file", ask(disk.Remove(wrong, 9)), api.ErrArg},
		{"Sync: not formed", ask(disk.Sync(wrong)), api.ErrArg},
		{"Crash: not formed", ask(disk.Crash(wrong, 0, 0)), api.ErrArg},
		{"Crash: keep below 0", ask(disk.Crash(full, -1, 0)), api.ErrArg},
		{"Crash: turn below 0", ask(disk.Crash(full, 0, -1)), api.ErrArg},
		{"Crash: turn above 255, nothing to turn", ask(disk.Crash(api.Disk{}, 0, 256)), api.ErrArg},
	} {
		if c.got != c.want {
			t.Errorf("%s: %d, not %d", c.why, c.got, c.want)
		}
	}
}

// P8.1: what a crash keeps, and which byte it turns, written out.
func TestCrashWrittenOut(t *testing.T) {
	before := on(20, file(1, "ab", 2), file(2, "cd", 1), file(3, "", 0), file(4, "efg", 0), file(9, "h", 0), file(10, "", 0))
	for _, c := range []struct {
		keep, turn int
		left       [6]string
	}{
		{0, 0, [6]string{"ab", "c", "", "", "", ""}},
		{0, 0xff, [6]string{"ab", "c", "", "", "", ""}},
		{1, 0, [6]string{"ab", "cd", "", "", "", ""}},
		{1, 0x20, [6]string{"ab", "cD", "", "", "", ""}},
		{2, 0x20, [6]string{"ab", "cd", "", "E", "", ""}},
		{3, 0x20, [6]string{"ab", "cd", "", "eF", "", ""}},
		{4, 0x20, [6]string{"ab", "cd", "", "efG", "", ""}},
		{5, 0x20, [6]string{"ab", "cd", "", "efg", "H", ""}},
		{5, 0, [6]string{"ab", "cd", "", "efg", "h", ""}},
		{5, 0xff, [6]string{"ab", "cd", "", "efg", "\x97", ""}},
		{6, 0x20, [6]string{"ab", "cd", "", "efg", "H", ""}},
		{1000, 1, [6]string{"ab", "cd", "", "efg", "i", ""}},
		{math.MaxInt, 0x20, [6]string{"ab", "cd", "", "efg", "H", ""}},
	} {
		var want []api.File
		for i, f := range before.Files {
			want = append(want, file(f.Number, c.left[i], len(c.left[i])))
		}
		if got, e := disk.Crash(before, c.keep, c.turn); e != api.OK || !same(got, on(20, want...)) {
			t.Errorf("Crash(%d, %x): %v %d", c.keep, c.turn, got, e)
		}
	}
	sure := on(5, file(1, "abc", 3), file(2, "", 0))
	for _, keep := range []int{0, 1, 7} {
		if got, e := disk.Crash(sure, keep, 0xff); e != api.OK || !same(got, sure) {
			t.Errorf("Crash(%d, ff), all sure: %v %d", keep, got, e)
		}
	}
}

// P8.1: each byte is turned by each number, as exclusive or does.
func TestTurns(t *testing.T) {
	for x := range 256 {
		d := on(3, api.File{Number: 1, Bytes: []byte{7, byte(x), 9}, Sure: 1})
		for turn := range 256 {
			want := api.File{Number: 1, Bytes: []byte{7, byte(x ^ turn)}, Sure: 2}
			if got, e := disk.Crash(d, 1, turn); e != api.OK || !same(got, on(3, want)) {
				t.Fatalf("%x turned by %x: %v %d", x, turn, got, e)
			}
		}
	}
}

// P8.1: a disk of the most bytes, in one file and in many.
func TestMostBytes(t *testing.T) {
	half := bytes.Repeat([]byte{5}, api.MaxRoom/2)
	most := slices.Concat(half, half)
	for n, formed := range map[int]bool{0: true, 1: false, api.MaxRoom: false} {
		d := on(api.MaxRoom, api.File{Number: 1, Bytes: most}, api.File{Number: 2, Bytes: most[:n]})
		if disk.Formed(d) != formed {
			t.Errorf("%d bytes more than the most: not %v", n, formed)
		}
	}
	d, e := disk.Append(on(api.MaxRoom), 3, most)
	if e != api.OK || disk.Used(d) != api.MaxRoom {
		t.Fatal(disk.Used(d), e)
	}
	if got, e := disk.Append(d, 4, []byte("a")); e != api.ErrNoSpace || !same(got, api.Disk{}) {
		t.Error(disk.Used(got), e)
	}
	if got, e := disk.Append(on(api.MaxRoom), 4, make([]byte, api.MaxRoom+1)); e != api.ErrNoSpace || !same(got, api.Disk{}) {
		t.Error(disk.Used(got), e)
	}
	d, e = disk.Cut(d, 3, api.MaxRoom/2)
	if e != api.OK || disk.Used(d) != api.MaxRoom/2 {
		t.Fatal(disk.Used(d), e)
	}
	d, e = disk.Append(d, 2, half)
	if e != api.OK || !same(d, on(api.MaxRoom, api.File{Number: 2, Bytes: half}, api.File{Number: 3, Bytes: half})) {
		t.Fatal(disk.Used(d), e)
	}
	d, e = disk.Crash(d, api.MaxRoom/2+1, 4)
	if e != api.OK || !same(d, on(api.MaxRoom, api.File{Number: 2, Bytes: half, Sure: len(half)}, file(3, "\x01", 1))) {
		t.Fatal(disk.Used(d), e)
	}
}

// P8.1: a disk of as many files as there are numbers.
func TestMostFiles(t *testing.T) {
	var d api.Disk
	d.Room = 9
	for n := range api.MaxFiles + 1 {
		d.Files = append(d.Files, api.File{Number: n})
	}
	if !disk.Formed(d) || disk.Used(d) != 0 {
		t.Fatal("not formed")
	}
	for _, n := range []int{0, 1, 77777, api.MaxFiles - 1, api.MaxFiles} {
		got, e := disk.Append(d, n, []byte("ab"))
		if e != api.OK || len(got.Files) != api.MaxFiles+1 || !sameFile(got.Files[n], file(n, "ab", 0)) || disk.Used(got) != 2 {
			t.Fatal(n, e)
		}
		got, e = disk.Remove(got, n)
		if e != api.OK || len(got.Files) != api.MaxFiles || disk.Used(got) != 0 {
			t.Fatal(n, e)
		}
		if b, e := disk.Get(got, n); e != api.ErrNone || len(b) != 0 {
			t.Fatal(n, e)
		}
		again, e := disk.Append(got, n, nil)
		if e != api.OK || !same(again, d) {
			t.Fatal(n, e)
		}
	}
}

// act: a call that is made on a disk, and what it appends to which file (to none, if it syncs).
type act struct {
	sync   bool
	number int
	text   string
}

// history: what was appended to each file, and how much of it was there when it was synced.
type history struct {
	written map[int]string
	synced  map[int]string
}

// played: a disk behind some acts, and what was done.
func played(t *testing.T, acts []act) (api.Disk, history) {
	d, h := on(api.MaxRoom), history{map[int]string{}, map[int]string{}}
	var e api.Errno
	for _, a := range acts {
		if a.sync {
			for n, text := range h.written {
				h.synced[n] = text
			}
			d, e = disk.Sync(d)
		} else {
			h.written[a.number] += a.text
			d, e = disk.Append(d, a.number, []byte(a.text))
		}
		if e != api.OK {
			t.Fatal(a, e)
		}
	}
	return d, h
}

// others: in how many places is one text another one than the beginning of the other?
func others(a, b string) int {
	n := 0
	for i := range len(a) {
		if a[i] != b[i] {
			n++
		}
	}
	return n
}

// checkSure: is what was synced there, and was what stands behind it appended there, but for one byte?
func checkSure(t *testing.T, after api.Disk, h history) {
	t.Helper()
	turned := 0
	if len(after.Files) != len(h.written) {
		t.Fatalf("%v: not the files of %v", after, h.written)
	}
	for n, text := range h.written {
		b, e := disk.Get(after, n)
		if e != api.OK || !strings.HasPrefix(string(b), h.synced[n]) || len(b) > len(text) {
			t.Fatalf("file %d: %q %d, behind %q, synced %q", n, b, e, text, h.synced[n])
		}
		turned += others(string(b), text)
	}
	if turned > 1 {
		t.Fatalf("%v: %d bytes are others than in %v", after, turned, h.written)
	}
	if again, e := disk.Crash(after, 0, 0xff); e != api.OK || !same(again, after) {
		t.Fatalf("%v: not all sure, %d", after, e)
	}
}

// P8.2: all rows of up to five appends and syncs, each with each crash.
func TestSureOutlivesCrashes(t *testing.T) {
	pool := []act{{sync: true}, {number: 1, text: "a"}, {number: 1, text: "bcd"}, {number: 2, text: "ef"}, {number: 0, text: ""}, {number: 0, text: "g"}}
	var walk func(acts []act)
	walk = func(acts []act) {
		d, h := played(t, acts)
		for keep := range disk.Used(d) + 2 {
			for _, turn := range []int{0, 1, 0xff} {
				after, e := disk.Crash(d, keep, turn)
				if e != api.OK {
					t.Fatal(acts, e)
				}
				checkSure(t, after, h)
			}
		}
		if len(acts) < 5 {
			for _, a := range pool {
				walk(append(slices.Clone(acts), a))
			}
		}
	}
	walk(nil)
}

// P8.2: so also through crash upon crash: what is left is as sure as if it had been synced.
func TestCrashUponCrash(t *testing.T) {
	d, sure := on(1000), ""
	for i := range 200 {
		text := strings.Repeat(string(rune('a'+i%26)), 1+i%3)
		var e api.Errno
		if d, e = disk.Append(d, 5, []byte(text)); e != api.OK {
			t.Fatal(i, e)
		}
		keep := i % 4
		if d, e = disk.Crash(d, keep, 0); e != api.OK {
			t.Fatal(i, e)
		}
		sure += text[:min(keep, len(text))]
		if !same(d, on(1000, file(5, sure, len(sure)))) {
			t.Fatalf("%d: %v, not %q", i, d, sure)
		}
	}
}

// roomy: a copy of a disk all of whose lists have spare room, filled with what would be seen if it were changed.
func roomy(d api.Disk) api.Disk {
	files := make([]api.File, 0, len(d.Files)+3)
	for _, f := range d.Files {
		f.Bytes = append(slices.Clone(f.Bytes), "spare room"...)[:len(f.Bytes)]
		files = append(files, f)
	}
	rest := files[len(files):cap(files)]
	for i := range rest {
		rest[i] = file(90+i, "rest", 2)
	}
	d.Files = files
	return d
}

// whole: a copy of a disk with all its spare room.
func whole(d api.Disk) api.Disk {
	d.Files = slices.Clone(d.Files[:cap(d.Files)])
	for i, f := range d.Files {
		d.Files[i].Bytes = slices.Clone(f.Bytes[:cap(f.Bytes)])
	}
	return d
}

// spoil: all that can be reached of a disk is written over, spare room too.
func spoil(d api.Disk) {
	for _, f := range d.Files[:cap(d.Files)] {
		b := f.Bytes[:cap(f.Bytes)]
		for i := range b {
			b[i] ^= 0xff
		}
	}
	clear(d.Files[:cap(d.Files)])
}

// answers: each disk that is answered of one, twice; a file that is answered stands as one on a disk.
func answers(d api.Disk, b []byte) []api.Disk {
	var list []api.Disk
	put := func(got api.Disk, e api.Errno) { list = append(list, got) }
	for range 2 {
		for _, f := range append(slices.Clone(d.Files), file(0, "", 0), file(6, "", 0), file(api.MaxFiles, "", 0)) {
			put(disk.Append(d, f.Number, b))
			put(disk.Append(d, f.Number, nil))
			put(disk.Cut(d, f.Number, len(f.Bytes)))
			put(disk.Cut(d, f.Number, len(f.Bytes)/2))
			put(disk.Cut(d, f.Number, 0))
			put(disk.Remove(d, f.Number))
			got, e := disk.Get(d, f.Number)
			put(on(0, api.File{Bytes: got}), e)
		}
		put(disk.Sync(d))
		put(disk.Crash(d, 0, 1))
		put(disk.Crash(d, 2, 1))
		put(disk.Crash(d, 99, 1))
	}
	return list
}

// handed: disks that may be handed in.
func handed() []api.Disk {
	return []api.Disk{
		{},
		on(30),
		on(30, file(1, "abcd", 2)),
		on(30, file(1, "abcd", 4), file(2, "", 0), file(5, "efghij", 0), file(9, "k", 1)),
		on(13, file(0, "lmnopq", 3), file(api.MaxFiles, "rstu", 1)),
		on(2, file(1, "abcd", 2)),
	}
}

// P1 (rules 5 and 6): what is handed in stays, its spare room too; what is answered shares no memory with it, nor with another answer; what a call answers hangs on no earlier one.
func TestMemory(t *testing.T) {
	for _, h := range handed() {
		d := roomy(h)
		was := whole(d)
		b := []byte("xyz-spare")[:3]
		want := answers(d, b)
		for i := range want {
			got := answers(d, b)
			spoil(got[i])
			if !same(whole(d), was) || string(b[:9]) != "xyz-spare" {
				t.Fatalf("%v: changed, or %d shares with it", h, i)
			}
			for k := range want {
				if k != i && !same(got[k], want[k]) {
					t.Fatalf("%v: %d shares with %d", h, i, k)
				}
			}
		}
		spoil(d)
		clear(b[:9])
		for i, again := range answers(h, []byte("xyz")) {
			if !same(want[i], again) {
				t.Fatalf("%v: %d shares with what was handed in, or hangs on an earlier call", h, i)
			}
		}
	}
}

// P1 (rule 5): of one answer, too, no two files share memory, though those that were handed in do.
func TestFilesShareNothing(t *testing.T) {
	row := []byte("abcdef")
	d := on(30, api.File{Number: 1, Bytes: row[:3], Sure: 1}, api.File{Number: 2, Bytes: row[:5], Sure: 1}, api.File{Number: 3, Bytes: row[3:], Sure: 0})
	for _, got := range answers(d, row) {
		for i, f := range got.Files {
			want := whole(got)
			b := append(f.Bytes[:0], bytes.Repeat([]byte("!"), cap(f.Bytes))...)
			for k := range got.Files {
				if k != i && !bytes.Equal(got.Files[k].Bytes, want.Files[k].Bytes[:len(got.Files[k].Bytes)]) {
					t.Fatalf("%v: file %d shares with file %d", want, i, k)
				}
			}
			copy(b, want.Files[i].Bytes)
		}
	}
	if string(row) != "abcdef" {
		t.Error(string(row))
	}
}

// P1 (rule 5): a file's own bytes are appended to it as they are.
func TestAppendsItsOwnBytes(t *testing.T) {
	d := roomy(on(30, file(1, "abc", 1), file(2, "de", 0)))
	if got, e := disk.Append(d, 1, d.Files[0].Bytes); e != api.OK || !same(got, on(30, file(1, "abcabc", 1), file(2, "de", 0))) {
		t.Error(got, e)
	}
	if got, e := disk.Append(d, 2, d.Files[0].Bytes[1:]); e != api.OK || !same(got, on(30, file(1, "abc", 1), file(2, "debc", 0))) {
		t.Error(got, e)
	}
}

// P8.1: what is cut off, lost or gone can't be reached by the spare room of what is left.
func TestWhatIsLostCantBeReached(t *testing.T) {
	d := on(40, file(1, "ab@@", 2), file(2, "@", 0), file(7, "cdef@@@@@@", 4))
	lost := func(got api.Disk, e api.Errno) {
		t.Helper()
		if e != api.OK {
			t.Fatal(e)
		}
		for _, f := range got.Files {
			if spare := f.Bytes[len(f.Bytes):cap(f.Bytes)]; bytes.IndexByte(spare, '@') >= 0 {
				t.Errorf("file %d: %q, and in its spare room %q", f.Number, f.Bytes, spare)
			}
		}
	}
	for _, keep := range []int{0, 1, 2, 3, 5} {
		lost(disk.Crash(d, keep, 0))
	}
	for _, n := range []int{0, 4, 5, 9} {
		lost(disk.Cut(d, 7, n))
	}
	lost(disk.Cut(d, 1, 2))
	over := []byte("ab@@@@@@")
	d = on(40, api.File{Number: 1, Bytes: over[:2], Sure: 1})
	lost(disk.Sync(d))
	lost(disk.Append(d, 1, nil))
	lost(disk.Append(d, 2, []byte("c")))
	lost(disk.Cut(d, 1, 2))
	lost(disk.Crash(d, 1, 0))
	b, e := disk.Get(d, 1)
	lost(on(0, api.File{Bytes: b}), e)
	d = on(40, file(1, "a", 0), file(2, "@", 0), file(3, "b", 0))
	gone, e := disk.Remove(d, 2)
	lost(gone, e)
	for _, f := range gone.Files[len(gone.Files):cap(gone.Files)] {
		if len(f.Bytes) > 0 {
			t.Errorf("what is gone: %q", f.Bytes)
		}
	}
}

// P8.1: nor does what stood in spare room come back by an append.
func TestSpareRoomSaysNothing(t *testing.T) {
	d := roomy(on(40, file(1, "ab", 1), file(3, "", 0)))
	for _, number := range []int{0, 1, 2, 3, 4} {
		got, e := disk.Append(d, number, []byte("cd"))
		want, wantE := wordAppend(d, number, []byte("cd"))
		if e != wantE || !same(got, want) {
			t.Errorf("%d: %v %d", number, got, e)
		}
	}
	cut, _ := disk.Cut(d, 1, 1)
	if got, e := disk.Append(cut, 1, []byte("z")); e != api.OK || !same(got, on(40, file(1, "az", 1), file(3, "", 0))) {
		t.Error(got, e)
	}
}
