package log

import (
	"math"
	"math/rand"
	"slices"
	"strings"
	"testing"

	"varve/api"
	"varve/disk"
	"varve/ring"
)

// startsOf are those of blocks with numbers from first on, with these Offsets.
func startsOf(first uint32, offsets ...uint64) []api.Start {
	var list []api.Start
	for i, o := range offsets {
		list = append(list, api.Start{Number: first + uint32(i), Offset: o})
	}
	return list
}

// numbered are starts with these numbers, whose Offsets rise.
func numbered(numbers ...uint32) []api.Start {
	var list []api.Start
	for i, n := range numbers {
		list = append(list, api.Start{Number: n, Offset: uint64(10 + 10*i)})
	}
	return list
}

// textOf is a text whose frame has n bytes, with a byte that tells it from others.
func textOf(c byte, n int) string {
	return strings.Repeat(string(c), n-6)
}

// regions are those of a disk of 8 blocks that are right, and those that aren't.
func regions() (right, wrong [][2]int) {
	right = [][2]int{{0, 1}, {0, 8}, {7, 1}, {2, 5}, {3, 5}, {1, 7}}
	wrong = [][2]int{
		{-1, 1}, {-1, 9}, {-8, 8}, {math.MinInt, 1}, {math.MinInt, math.MaxInt}, {math.MinInt, math.MinInt},
		{0, 0}, {8, 0}, {0, -1}, {8, -1}, {9, -1}, {0, math.MinInt}, {math.MaxInt, math.MinInt},
		{0, 9}, {8, 1}, {9, 1}, {4, 5}, {1, 8}, {7, 2},
		{math.MaxInt, 1}, {math.MaxInt - 1, 2}, {math.MaxInt, 2}, {1, math.MaxInt}, {8, math.MaxInt}, {0, math.MaxInt}, {math.MaxInt, math.MaxInt},
	}
	return right, wrong
}

func TestExample(t *testing.T) { // P11.1 to P11.6
	d := disk.New(8)
	l := New(d, 2, 5, 1, nil, 0, 1)
	wantAppend(t, l, "hi", 1, api.OK)
	wantNumbers(t, "laid", l, numbers{end: 9, durable: 1, free: 4, tail: 0})
	if d.Ops() != 0 {
		t.Error("Append has asked the disk")
	}
	wantFlush(t, l, api.OK)
	chunk := api.Chunk{Epoch: 1, Number: 0, Offset: 1, Bytes: ring.Frame("hi")}
	if d.Sure(2) != packed(chunk) || d.Ops() != 2 {
		t.Errorf("Flush: %d operations", d.Ops())
	}
	wantNumbers(t, "flushed", l, numbers{end: 9, durable: 9, free: 4, tail: 0})
	wantFrom(t, l, 9, 1)
	wantScan(t, d, 2, 5, 0, []api.Chunk{chunk}, api.OK)
	l.Trim(9)
	wantNumbers(t, "trimmed", l, numbers{end: 9, durable: 9, free: 5, tail: 1})
}

func TestNewRegion(t *testing.T) { // P11.1
	right, wrong := regions()
	for _, r := range right {
		d := disk.New(8)
		l := New(d, r[0], r[1], 1, nil, 4, 9)
		if l == nil || d.Ops() != 0 {
			t.Errorf("New at %d, size %d: nil, or %d operations", r[0], r[1], d.Ops())
		}
		wantNumbers(t, "New", l, numbers{end: 9, durable: 9, free: r[1], tail: 4})
		if New(nil, r[0], r[1], 1, nil, 4, 9) != nil {
			t.Errorf("New at %d, size %d, without a disk: a log", r[0], r[1])
		}
	}
	for _, r := range wrong {
		if New(disk.New(8), r[0], r[1], 1, nil, 4, 9) != nil || New(nil, r[0], r[1], 1, nil, 4, 9) != nil {
			t.Errorf("New at %d, size %d: a log", r[0], r[1])
		}
	}
	if New(disk.New(2048), 0, 2048, 0, nil, 0, 0) == nil || New(disk.New(2048), 1, 2048, 0, nil, 0, 0) != nil || New(disk.New(2048), 0, 2049, 0, nil, 0, 0) != nil {
		t.Error("New over the greatest disk")
	}
	if New(disk.New(1), 0, 1, 0, nil, 0, 0) == nil {
		t.Error("New over the least disk")
	}
}

func TestNewWithoutPower(t *testing.T) { // P11.1, P11.3
	d := disk.New(8)
	d.Plan(nil, 1)
	d.Sync()
	l := New(d, 2, 5, 1, startsOf(3, 0), 4, 9)
	wantNumbers(t, "New without power", l, numbers{end: 9, durable: 9, free: 4, tail: 3})
	wantFlush(t, l, api.OK)
	wantAppend(t, l, "hi", 9, api.OK)
	wantFlush(t, l, api.ErrDown)
	wantNumbers(t, "a Flush without power", l, numbers{end: 17, durable: 9, free: 3, tail: 3})
	d.Crash(nil)
	wantFlush(t, l, api.OK)
	wantNumbers(t, "with power", l, numbers{end: 17, durable: 17, free: 3, tail: 3})
}

func TestNewStarts(t *testing.T) { // P11.1
	last := uint32(math.MaxUint32)
	for _, c := range []struct {
		name   string
		starts []api.Start
		number uint32
		end    uint64
		is     bool
	}{
		{"none", nil, 7, 50, true},
		{"none, empty", []api.Start{}, 0, 0, true},
		{"one", startsOf(6, 10), 7, 50, true},
		{"as many as size", startsOf(2, 10, 20, 30, 40, 45), 7, 50, true},
		{"one more than size", startsOf(1, 10, 20, 30, 40, 45, 46), 7, 50, false},
		{"many more than size", slices.Repeat(startsOf(6, 10), 5000), 7, 50, false},
		{"the last one is number", startsOf(7, 10), 7, 50, false},
		{"the last one is number less 2", startsOf(5, 10), 7, 50, false},
		{"a gap at the end", startsOf(4, 10, 20), 7, 50, false},
		{"one twice", numbered(5, 5, 6), 7, 50, false},
		{"one left out", numbered(3, 5, 6), 7, 50, false},
		{"falling numbers", numbered(6, 5, 4), 7, 50, false},
		{"all the last one", numbered(6, 6), 7, 50, false},
		{"past the greatest number", startsOf(last-1, 10, 20, 30), 1, 50, true},
		{"up to the greatest number", startsOf(last-1, 10, 20), 0, 50, true},
		{"ahead of the greatest number", startsOf(last-2, 10, 20), last, 50, true},
		{"past the greatest number, a gap", numbered(last, 1), 2, 50, false},
		{"past the greatest number, none at its end", startsOf(last, 10), 1, 50, false},
		{"numbers that would be below 0", startsOf(0, 10, 20), 1, 50, false},
		{"offsets that fall", startsOf(4, 10, 30, 20), 7, 50, false},
		{"offsets that fall at first", startsOf(4, 30, 29, 40), 7, 50, false},
		{"offsets that stay", startsOf(4, 10, 10, 10), 7, 50, true},
		{"offsets that stay, and rise by 1", startsOf(4, 10, 10, 11), 7, 50, true},
		{"offsets at 0", startsOf(4, 0, 0, 0), 7, 0, true},
		{"one at the end", startsOf(4, 10, 20, 50), 7, 50, true},
		{"all at the end", startsOf(4, 50, 50, 50), 7, 50, true},
		{"the last one above the end", startsOf(4, 10, 20, 51), 7, 50, false},
		{"all above the end", startsOf(4, 51, 52, 53), 7, 50, false},
		{"the greatest end", startsOf(4, 0, 1<<63, math.MaxUint64), 7, math.MaxUint64, true},
		{"above an end of nearly that", startsOf(6, math.MaxUint64), 7, math.MaxUint64 - 1, false},
		{"above an end of 0", startsOf(6, 1), 7, 0, false},
	} {
		l := New(disk.New(8), 2, 5, 1, c.starts, c.number, c.end)
		if (l != nil) != c.is {
			t.Errorf("%s: a log: %v", c.name, l != nil)
		}
		if c.is {
			wantNumbers(t, c.name, l, numbers{c.end, c.end, 5 - len(c.starts), c.number - uint32(len(c.starts))})
		}
	}
	if New(disk.New(8), 7, 1, 1, startsOf(6, 10), 7, 50) == nil || New(disk.New(8), 7, 1, 1, startsOf(5, 10, 10), 7, 50) != nil {
		t.Error("New of size 1")
	}
}

func TestNil(t *testing.T) { // P11.1
	var l *Log
	for range 2 {
		for _, s := range []string{"", "hi", textOf('a', 406), textOf('a', 407)} {
			wantAppend(t, l, s, 0, api.ErrArg)
		}
		wantFlush(t, l, api.ErrArg)
		wantNumbers(t, "nil", l, numbers{})
		for _, lsn := range []uint64{0, 1, 9, math.MaxUint64} {
			wantFrom(t, l, lsn, 0)
			l.Trim(lsn)
		}
	}
}

// What New was given is neither changed nor kept.
func TestStartsHandedIn(t *testing.T) { // P11.1
	room := startsOf(4, 10, 20, 30, 99, 98)
	was := slices.Clone(room)
	l := New(disk.New(8), 0, 8, 1, room[:3], 7, 50)
	wantAppend(t, l, "hi", 50, api.OK)
	wantFlush(t, l, api.OK)
	l.Trim(20)
	if !slices.Equal(room, was) {
		t.Errorf("New or the log has changed what was handed in: %v", room)
	}
	for i := range room {
		room[i] = api.Start{Number: 77, Offset: 1}
	}
	wantFrom(t, l, 29, 5)
	wantFrom(t, l, 30, 6)
	wantNumbers(t, "handed in", l, numbers{end: 58, durable: 58, free: 5, tail: 5})
}

// Two logs have nothing in common but their disk.
func TestApart(t *testing.T) { // P11.1
	d := disk.New(8)
	one, other := New(d, 0, 4, 1, nil, 0, 1), New(d, 4, 4, 2, nil, 0, 1)
	wantAppend(t, one, "hi", 1, api.OK)
	wantNumbers(t, "the other one", other, numbers{end: 1, durable: 1, free: 4, tail: 0})
	wantFlush(t, other, api.OK)
	wantAppend(t, other, "ho!", 1, api.OK)
	wantFlush(t, one, api.OK)
	wantFlush(t, other, api.OK)
	wantScan(t, d, 0, 4, 0, []api.Chunk{{Epoch: 1, Offset: 1, Bytes: ring.Frame("hi")}}, api.OK)
	wantScan(t, d, 4, 4, 0, []api.Chunk{{Epoch: 2, Offset: 1, Bytes: ring.Frame("ho!")}}, api.OK)
}

func TestAppendSizes(t *testing.T) { // P11.2
	for _, n := range []int{0, 1, 2, 207, 208, 209, 399, 400, 401, 402, 1000, 1 << 16, 1<<16 + 1} {
		x := pairOf(t, 8, 2, 5, 1, nil, 0, 1)
		s := strings.Repeat("s", n)
		if n < 1 || n > 400 {
			wantAppend(t, x.l, s, 0, api.ErrArg)
			wantNumbers(t, "refused", x.l, numbers{end: 1, durable: 1, free: 5, tail: 0})
			wantFlush(t, x.l, api.OK)
			if x.d.Ops() != 0 {
				t.Errorf("%d bytes were laid", n)
			}
			continue
		}
		wantAppend(t, x.l, s, 1, api.OK)
		wantNumbers(t, "laid", x.l, numbers{end: uint64(7 + n), durable: 1, free: 5 - (n+6+213)/214, tail: 0})
		wantFlush(t, x.l, api.OK)
		chunks, _ := Scan(x.d, 2, 5, 0)
		_, stream, _, _ := ring.Join(0, chunks)
		if stream != ring.Frame(s) {
			t.Errorf("%d bytes: another stream was laid", n)
		}
	}
}

// ErrArg is named ahead of ErrFull.
func TestAppendFullAndWrong(t *testing.T) { // P11.2
	x := pairOf(t, 8, 7, 1, 1, startsOf(3, 0), 4, 1)
	for _, n := range []int{0, 401} {
		wantAppend(t, x.l, strings.Repeat("s", n), 0, api.ErrArg)
	}
	wantAppend(t, x.l, "s", 0, api.ErrFull)
	x.same("refused")
}

// sealedBytes are how many bytes the blocks have that a Flush writes, in order.
func sealedBytes(t *testing.T, x *pair, first uint32) []int {
	t.Helper()
	if e := x.flush(); e != api.OK {
		t.Fatalf("Flush: %d", e)
	}
	var list []int
	for _, c := range x.scan(first) {
		list = append(list, len(c.Bytes))
	}
	return list
}

// A frame that brings the open part to just LogRoom bytes, one less, one more, to two blocks, and so on.
func TestAppendSeals(t *testing.T) { // P11.2
	for _, c := range []struct {
		first, second int   // bytes of the frames
		want          []int // bytes of the blocks
	}{
		{7, 206, []int{213}}, {7, 207, []int{214}}, {7, 208, []int{214, 1}}, {100, 100, []int{200}},
		{213, 7, []int{214, 6}}, {214, 7, []int{214, 7}}, {215, 7, []int{214, 8}},
		{214, 214, []int{214, 214}}, {22, 405, []int{214, 213}}, {22, 406, []int{214, 214}}, {23, 406, []int{214, 214, 1}},
		{213, 406, []int{214, 214, 191}}, {406, 406, []int{214, 214, 214, 170}},
	} {
		x := pairOf(t, 9, 2, 6, 3, nil, 5, 1)
		wantAppend(t, x.l, textOf('a', c.first), 1, api.OK)
		wantAppend(t, x.l, textOf('b', c.second), 1+uint64(c.first), api.OK)
		wantNumbers(t, "sealed", x.l, numbers{end: uint64(1 + c.first + c.second), durable: 1, free: 6 - len(c.want), tail: 5})
		stream := ring.Frame(textOf('a', c.first)) + ring.Frame(textOf('b', c.second))
		wantFlush(t, x.l, api.OK)
		var want []api.Chunk
		at := 0
		for i, n := range c.want {
			want = append(want, api.Chunk{Epoch: 3, Number: 5 + uint32(i), Offset: uint64(1 + at), Bytes: stream[at : at+n]})
			at += n
		}
		wantScan(t, x.d, 2, 6, 5, want, api.OK)
	}
}

// What an Append seals at once is one block with what follows; what a Flush seals isn't.
func TestAppendBehindFlush(t *testing.T) { // P11.2, P11.3
	x := pairOf(t, 8, 0, 8, 1, nil, 0, 1)
	x.fill(100)
	x.flush()
	x.fill(100)
	x.fill(114)
	x.fill(10)
	if got := sealedBytes(t, x, 0); !slices.Equal(got, []int{100, 214, 10}) {
		t.Errorf("blocks of %v bytes", got)
	}
	x.fill(214)
	x.fill(20)
	x.plan([]int{1}, 0)
	if e := x.flush(); e != api.ErrIO {
		t.Fatalf("Flush: %d", e)
	}
	x.fill(20) // behind the open part that the failed one has sealed
	if got := sealedBytes(t, x, 0); !slices.Equal(got, []int{100, 214, 10, 214, 20, 20}) {
		t.Errorf("blocks of %v bytes", got)
	}
}

// A frame that takes just the last free block, and one that would take one more, with blocks that last, sealed ones and an open part.
func TestAppendFull(t *testing.T) { // P11.2
	for _, c := range []struct {
		name    string
		size    int
		lasting int
		before  []int // bytes of the frames that are laid ahead
		flushed bool
		free    int
		most    int // bytes of the greatest frame that there is room for
	}{
		{"size 1, nothing there", 1, 0, nil, false, 1, 214},
		{"size 1, an open part", 1, 0, []int{100}, false, 0, 114},
		{"size 1, an open part of nearly a block", 1, 0, []int{207}, false, 0, 7},
		{"size 2, nothing there", 2, 0, nil, false, 2, 406},
		{"size 2, one lasts", 2, 1, nil, false, 1, 214},
		{"size 2, one sealed", 2, 0, []int{214}, false, 1, 214},
		{"size 2, one sealed by a Flush", 2, 0, []int{30}, true, 1, 214},
		{"size 3, one lasts, one sealed, one open", 3, 1, []int{220}, false, 0, 208},
		{"size 3, one lasts, and one open", 3, 1, []int{22}, false, 1, 406},
		{"size 3, one lasts, and a little more open", 3, 1, []int{23}, false, 1, 405},
		{"size 5, two last, two sealed", 5, 2, []int{214, 214}, false, 1, 214},
	} {
		for _, more := range []int{-1, 0, 1} {
			n := c.most + more
			if n > 406 || n < 7 {
				continue
			}
			offsets := make([]uint64, c.lasting)
			x := pairOf(t, 8, 8-c.size, c.size, 1, startsOf(9, offsets...), 9+uint32(c.lasting), 500)
			for _, b := range c.before {
				x.fill(b)
			}
			if c.flushed {
				x.flush()
			}
			was := numbersOf(x.l)
			if more <= 0 {
				wantAppend(t, x.l, textOf('z', n), was.end, api.OK)
				if x.l.Free() != 0 {
					t.Errorf("%s: %d free behind it", c.name, x.l.Free())
				}
				continue
			}
			wantAppend(t, x.l, textOf('z', n), 0, api.ErrFull)
			wantNumbers(t, c.name, x.l, numbers{was.end, was.durable, c.free, 9})
			x.same(c.name)
			x.flush() // nothing of what was refused is written
			x.trim(x.l.Durable())
			wantAppend(t, x.l, textOf('z', 206), was.end, api.OK)
		}
	}
}

// Where all blocks last there is no room even for the least text, till some are trimmed.
func TestAppendNoRoom(t *testing.T) { // P11.2, P11.5
	x := pairOf(t, 8, 3, 5, 1, startsOf(0, 10, 20, 30, 40, 50), 5, 60)
	for _, n := range []int{7, 214, 406} {
		wantAppend(t, x.l, textOf('a', n), 0, api.ErrFull)
	}
	wantNumbers(t, "full", x.l, numbers{end: 60, durable: 60, free: 0, tail: 0})
	wantFlush(t, x.l, api.OK)
	x.trim(20)
	wantAppend(t, x.l, textOf('a', 215), 0, api.ErrFull)
	wantAppend(t, x.l, textOf('a', 214), 60, api.OK)
	wantNumbers(t, "full again", x.l, numbers{end: 274, durable: 60, free: 0, tail: 1})
}

// places go on within 64 bits, as LSNs do.
func TestAppendGreatEnd(t *testing.T) { // P11.2
	for _, end := range []uint64{0, 1 << 32, 1 << 63, math.MaxUint64 - 600, math.MaxUint64 - 8, math.MaxUint64} {
		x := pairOf(t, 8, 0, 8, 1, nil, 0, end)
		wantAppend(t, x.l, "hi", end, api.OK)
		wantAppend(t, x.l, textOf('a', 406), end+8, api.OK)
		wantNumbers(t, "great", x.l, numbers{end: end + 414, durable: end, free: 6, tail: 0})
		wantFlush(t, x.l, api.OK)
		wantNumbers(t, "great", x.l, numbers{end: end + 414, durable: end + 414, free: 6, tail: 0})
		chunks, _ := Scan(x.d, 0, 8, 0)
		if len(chunks) != 2 || chunks[0].Offset != end || chunks[1].Offset != end+214 {
			t.Errorf("from %d on: %v", end, chunks)
		}
	}
}

func TestFlushNothing(t *testing.T) { // P11.3
	for _, starts := range [][]api.Start{nil, startsOf(3, 10), startsOf(3, 10, 20, 30)} {
		x := pairOf(t, 8, 2, 5, 1, starts, 3+uint32(len(starts)), 50)
		for range 3 {
			wantFlush(t, x.l, api.OK)
		}
		x.same("a fresh log")
		x.fill(20)
		if x.flush() != api.OK || x.d.Ops() != 2 {
			t.Errorf("Flush: %d operations", x.d.Ops())
		}
		x.plan([]int{1}, 2)
		for range 3 {
			wantFlush(t, x.l, api.OK)
		}
		x.same("one that isn't fresh")
		x.d.Sync()
		x.d.Sync()
		wantFlush(t, x.l, api.OK) // without power, too
		if x.d.Ops() != 2 || !x.d.Down() {
			t.Error("the disk was asked")
		}
	}
}

// script tells what a Flush must do with the disk: the number of the log's block that it writes, or that it syncs.
type script []int

const sync = -1

// flushCase is a log ahead of a Flush, and what that has to do.
type flushCase struct {
	name   string
	make   func(t *testing.T) *pair
	script script
	again  script // what a Flush does behind one that failed when it had synced the first block
}

func flushCases() []flushCase {
	fresh := func(frames ...int) func(t *testing.T) *pair {
		return func(t *testing.T) *pair {
			x := pairOf(t, 8, 2, 6, 1, nil, 4, 1)
			for _, n := range frames {
				x.fill(n)
			}
			return x
		}
	}
	stale := func(frames ...int) func(t *testing.T) *pair {
		return func(t *testing.T) *pair {
			x := pairOf(t, 8, 2, 6, 1, nil, 3, 1)
			x.fill(50)
			x.flush()
			for _, n := range frames {
				x.fill(n)
			}
			x.plan(nil, 0)
			return x
		}
	}
	return []flushCase{
		{"fresh, an open part", fresh(20), script{4, sync}, script{4, sync}},
		{"fresh, one sealed", fresh(214), script{4, sync}, script{4, sync}},
		{"fresh, one sealed and an open part", fresh(220), script{4, sync, 5, sync}, script{4, 5, sync}},
		{"fresh, three sealed", fresh(214, 214, 214), script{4, sync, 5, 6, sync}, script{4, 5, 6, sync}},
		{"fresh, round the region", fresh(406, 406, 206), script{4, sync, 5, 6, 7, 8, sync}, script{4, 5, 6, 7, 8, sync}},
		{"an open part", stale(20), script{4, sync}, script{4, sync}},
		{"one sealed and an open part", stale(220), script{4, 5, sync}, script{4, 5, sync}},
		{"four sealed", stale(214, 214, 214, 214), script{4, 5, 6, 7, sync}, script{4, 5, 6, 7, sync}},
	}
}

// flushTry is a log of a case, ahead of the Flush, and a disk like its own, with which the case's script is done.
type flushTry struct {
	x      *pair
	d      *disk.Disk
	blocks map[int]api.Block // which the Flush has to write, by their numbers
}

func (c flushCase) try(t *testing.T) flushTry {
	t.Helper()
	f := flushTry{x: c.make(t), d: c.make(t).d, blocks: map[int]api.Block{}}
	whole := c.make(t)
	if e := whole.flush(); e != api.OK {
		t.Fatalf("%s: %d", c.name, e)
	}
	for b := range 6 {
		if k, ok := ring.Unpack(whole.d.Sure(2 + b)); ok {
			f.blocks[int(k.Number)] = whole.d.Sure(2 + b)
		}
	}
	return f
}

func (f flushTry) do(s script) {
	for _, number := range s {
		if number == sync {
			f.d.Sync()
		} else {
			f.d.Write(2+number%6, f.blocks[number])
		}
	}
}

// The power goes at each place: what was done ahead of it tells in which order all is written and synced.
func TestFlushOrder(t *testing.T) { // P11.3
	for _, c := range flushCases() {
		for n := range len(c.script) {
			f := c.try(t)
			was := numbersOf(f.x.l)
			f.x.d.Plan(nil, n+1)
			wantFlush(t, f.x.l, api.ErrDown)
			wantNumbers(t, c.name+": the power went", f.x.l, was)
			f.do(c.script[:n])
			sameBlocks(t, c.name+": the power went", f.x.d, f.d)
			if f.x.d.Ops() != n+1 {
				t.Errorf("%s, the power goes at %d: %d operations", c.name, n+1, f.x.d.Ops())
			}
		}
		f := c.try(t)
		was := numbersOf(f.x.l)
		wantFlush(t, f.x.l, api.OK)
		wantNumbers(t, c.name, f.x.l, numbers{was.end, was.end, was.free, was.tail})
		f.do(c.script)
		sameDisk(t, c.name, f.x.d, f.d)
	}
}

// An operation fails, at each place: the answer is its error, all stays sealed, and a Flush done again makes it last.
func TestFlushFails(t *testing.T) { // P11.3, P11.7
	for _, c := range flushCases() {
		for n := range len(c.script) {
			f := c.try(t)
			was := numbersOf(f.x.l)
			f.x.d.Plan([]int{n + 1}, 0)
			wantFlush(t, f.x.l, api.ErrIO)
			wantNumbers(t, c.name+": it failed", f.x.l, was)
			f.do(c.script[:n])
			sameBlocks(t, c.name+": it failed", f.x.d, f.d)
			if f.x.d.Ops() != n+1 {
				t.Errorf("%s, it fails at %d: %d operations", c.name, n+1, f.x.d.Ops())
			}
			again := c.script
			if slices.Contains(c.script[:n], sync) {
				again = c.again
			}
			f.x.d.Plan(nil, 0)
			f.d.Plan(nil, 0)
			wantFlush(t, f.x.l, api.OK)
			wantNumbers(t, c.name+": done again", f.x.l, numbers{was.end, was.end, was.free, was.tail})
			f.do(again)
			sameDisk(t, c.name+": done again", f.x.d, f.d)
		}
	}
}

// It fails again and again, and texts are laid between: all of them last in the end.
func TestFlushFailsOften(t *testing.T) { // P11.2, P11.3
	x := pairOf(t, 10, 1, 9, 7, nil, 0, 1)
	for i, fails := range [][]int{{1}, {2}, {3}, {4}, {1}, {3}} {
		x.fill(50 + i)
		x.plan(fails, 0)
		if e := x.flush(); e != api.ErrIO {
			t.Fatalf("the Flush %d: %d", i, e)
		}
	}
	wantNumbers(t, "failed", x.l, numbers{end: 316, durable: 1, free: 3, tail: 0})
	x.plan(nil, 0)
	if got := sealedBytes(t, x, 0); !slices.Equal(got, []int{50, 51, 52, 53, 54, 55}) {
		t.Errorf("blocks of %v bytes", got)
	}
}

// Ahead of and behind each of the other calls.
func TestNumbers(t *testing.T) { // P11.4
	d := disk.New(8)
	l := New(d, 2, 5, 1, nil, 20, 100)
	wantNumbers(t, "no block", l, numbers{end: 100, durable: 100, free: 5, tail: 20})
	wantAppend(t, l, "", 0, api.ErrArg)
	wantNumbers(t, "a wrong text", l, numbers{end: 100, durable: 100, free: 5, tail: 20})
	wantAppend(t, l, textOf('a', 7), 100, api.OK)
	wantNumbers(t, "an open part alone", l, numbers{end: 107, durable: 100, free: 4, tail: 20})
	wantAppend(t, l, textOf('b', 206), 107, api.OK)
	wantNumbers(t, "one byte less than a block", l, numbers{end: 313, durable: 100, free: 4, tail: 20})
	l.Trim(1000)
	wantNumbers(t, "nothing to trim", l, numbers{end: 313, durable: 100, free: 4, tail: 20})
	wantFlush(t, l, api.OK)
	wantNumbers(t, "one that lasts", l, numbers{end: 313, durable: 313, free: 4, tail: 20})
	wantAppend(t, l, textOf('c', 214), 313, api.OK)
	wantNumbers(t, "one that lasts, one sealed", l, numbers{end: 527, durable: 313, free: 3, tail: 20})
	l.Trim(313)
	wantNumbers(t, "sealed ones alone", l, numbers{end: 527, durable: 313, free: 4, tail: 21})
	wantAppend(t, l, textOf('d', 215), 527, api.OK)
	wantNumbers(t, "sealed ones and an open part", l, numbers{end: 742, durable: 313, free: 2, tail: 21})
	d.Plan([]int{3}, 0)
	wantFlush(t, l, api.ErrIO)
	wantNumbers(t, "a Flush that failed", l, numbers{end: 742, durable: 313, free: 2, tail: 21})
	wantAppend(t, l, textOf('e', 23), 742, api.OK)
	wantNumbers(t, "an open part behind it", l, numbers{end: 765, durable: 313, free: 1, tail: 21})
	wantAppend(t, l, textOf('f', 406), 0, api.ErrFull)
	wantNumbers(t, "what was refused", l, numbers{end: 765, durable: 313, free: 1, tail: 21})
	wantFlush(t, l, api.OK)
	wantNumbers(t, "all last", l, numbers{end: 765, durable: 765, free: 1, tail: 21})
	l.Trim(765)
	wantNumbers(t, "all are trimmed", l, numbers{end: 765, durable: 765, free: 5, tail: 25})
}

// The numbers go on past the greatest one, within 32 bits.
func TestNumbersWithin32Bits(t *testing.T) { // P11.1, P11.2, P11.4, P11.5, P11.6
	last := uint32(math.MaxUint32)
	x := pairOf(t, 10, 1, 8, 9, startsOf(last-2, 10, 20), last, 30)
	x.fill(406)
	x.fill(406)
	wantNumbers(t, "laid", x.l, numbers{end: 842, durable: 30, free: 2, tail: last - 2})
	x.flush()
	wantFrom(t, x.l, 20, last-1)
	wantFrom(t, x.l, 30, last)
	wantFrom(t, x.l, 243, last)
	wantFrom(t, x.l, 244, 0)
	wantFrom(t, x.l, 458, 1)
	wantFrom(t, x.l, 842, 3)
	if list := x.scan(last); len(list) != 4 || list[0].Number != last || list[1].Number != 0 || list[3].Number != 2 {
		t.Errorf("Scan: %v", list)
	}
	x.trim(458)
	wantNumbers(t, "trimmed", x.l, numbers{end: 842, durable: 842, free: 6, tail: 1})
}

// The number modulo size, of numbers that fit an int of 32 bits and of those that don't.
func TestPlaces(t *testing.T) { // P11.3, P11.6
	for _, size := range []int{1, 2, 3, 5, 7} {
		for _, number := range []uint32{0, 1, 2, 5, 6, 7, 100, 1<<31 - 1, 1 << 31, 1<<31 + 1, math.MaxUint32 - 1, math.MaxUint32} {
			for _, at := range []int{0, 1, 9} {
				d := disk.New(16)
				l := New(d, at, size, 1, nil, number, 1)
				l.Append("hi")
				wantFlush(t, l, api.OK)
				chunk := api.Chunk{Epoch: 1, Number: number, Offset: 1, Bytes: ring.Frame("hi")}
				if d.Sure(at+int(int64(number)%int64(size))) != packed(chunk) {
					t.Errorf("at %d, size %d: the block %d stands elsewhere", at, size, number)
				}
				wantScan(t, d, at, size, number, []api.Chunk{chunk}, api.OK)
			}
		}
	}
}

func TestFrom(t *testing.T) { // P11.5
	x := pairOf(t, 12, 2, 10, 1, startsOf(4, 10, 20, 20, 30), 8, 50)
	check := func(cases [][2]uint64) {
		t.Helper()
		for _, c := range cases {
			wantFrom(t, x.l, c[0], uint32(c[1]))
		}
	}
	// Each reaches up to the next one's Offset, the last one up to Durable.
	table := [][2]uint64{
		{0, 4}, {1, 4}, {9, 4}, {10, 4}, {11, 4}, {19, 4}, {20, 6}, {21, 6}, {29, 6}, {30, 7}, {31, 7}, {49, 7}, {50, 8}, {51, 8}, {1 << 40, 8}, {math.MaxUint64, 8},
	}
	check(table)
	x.fill(100) // an open part, and a sealed block, change nothing of it
	check(table)
	x.fill(214)
	check(table)
	x.plan([]int{1}, 0)
	x.flush()
	check(table)
	x.flush()
	check(append(table[:12:12], [][2]uint64{{50, 8}, {263, 8}, {264, 9}, {363, 9}, {364, 10}, {365, 10}, {math.MaxUint64, 10}}...))
}

func TestTrim(t *testing.T) { // P11.5
	for lsn := range uint64(70) {
		x := pairOf(t, 12, 2, 10, 1, startsOf(4, 10, 20, 20, 30), 8, 50)
		x.fill(214)
		x.fill(10)
		first := x.l.From(lsn)
		x.trim(lsn)
		wantNumbers(t, "trimmed", x.l, numbers{end: 274, durable: 50, free: 4 + int(first-4), tail: first})
		wantFrom(t, x.l, 0, first)
		wantFrom(t, x.l, lsn, first)
		x.trim(lsn) // once more changes nothing
		x.trim(0)
		wantNumbers(t, "trimmed again", x.l, numbers{end: 274, durable: 50, free: 4 + int(first-4), tail: first})
		x.flush()
		x.fill(20)
		x.trim(265)
		wantNumbers(t, "trimmed more", x.l, numbers{end: 294, durable: 274, free: 8, tail: 9})
	}
}

// What is trimmed is the log's no longer, and its blocks are written over; the disk isn't asked for that.
func TestTrimAsksNoDisk(t *testing.T) { // P11.5
	x := pairOf(t, 4, 1, 3, 1, nil, 0, 1)
	for i := range 10 {
		x.fill(214)
		x.fill(214)
		x.flush()
		x.plan(nil, 1)
		x.trim(x.l.End() - 1)
		wantNumbers(t, "trimmed", x.l, numbers{end: uint64(1 + 428*(i+1)), durable: uint64(1 + 428*(i+1)), free: 2, tail: uint32(2*i + 1)})
		x.trim(x.l.End())
		x.plan(nil, 0)
	}
}

func TestScanRegion(t *testing.T) { // P11.6
	right, wrong := regions()
	for _, r := range right {
		d := disk.New(8)
		wantScan(t, d, r[0], r[1], 7, nil, api.OK)
		if d.Ops() != 1 {
			t.Errorf("Scan at %d, size %d: %d operations", r[0], r[1], d.Ops())
		}
		wantScan(t, nil, r[0], r[1], 7, nil, api.ErrArg)
	}
	for _, r := range wrong {
		d := disk.New(8)
		wantScan(t, d, r[0], r[1], 7, nil, api.ErrArg)
		wantScan(t, nil, r[0], r[1], 7, nil, api.ErrArg)
		if d.Ops() != 0 {
			t.Errorf("Scan at %d, size %d has asked the disk", r[0], r[1])
		}
		d.Plan(nil, 1)
		d.Sync()
		wantScan(t, d, r[0], r[1], 7, nil, api.ErrArg) // ahead of ErrDown
	}
}

// written is a disk of 8 blocks in whose region at 2, of size 5, the blocks with these numbers stand.
func written(numbers ...uint32) (*disk.Disk, []api.Chunk) {
	d := disk.New(8)
	var list []api.Chunk
	for i, n := range numbers {
		c := api.Chunk{Epoch: uint32(9 - i), Number: n, Offset: uint64(1000 - 3*i), Bytes: strings.Repeat("w", 1+i)}
		d.Write(2+int(n%5), packed(c))
		list = append(list, c)
	}
	d.Plan(nil, 0)
	return d, list
}

// Epochs and Offsets aren't looked at: that is for ring.Join.
func TestScanEnds(t *testing.T) { // P11.6
	for _, c := range []struct {
		name    string
		numbers []uint32
		first   uint32
		from, n int // which of them are told
		ops     int
	}{
		{"one", []uint32{7}, 7, 0, 1, 2},
		{"three, round the region", []uint32{8, 9, 10}, 8, 0, 3, 4},
		{"from the second one on", []uint32{8, 9, 10}, 9, 1, 2, 3},
		{"from the last one on", []uint32{8, 9, 10}, 10, 2, 1, 2},
		{"from behind the last one on", []uint32{8, 9, 10}, 11, 0, 0, 1},
		{"from ahead of the first one on", []uint32{8, 9, 10}, 7, 0, 0, 1},
		{"a gap", []uint32{8, 9, 11}, 8, 0, 2, 3},
		{"one of an elder round", []uint32{8, 9, 5, 11}, 8, 0, 2, 3},
		{"one of a later round", []uint32{8, 9, 15, 11}, 8, 0, 2, 3},
		{"all of an elder round", []uint32{5, 6, 7, 8, 9}, 10, 0, 0, 1},
		{"a full region", []uint32{8, 9, 10, 11, 12}, 8, 0, 5, 5},
		{"a full region, not from its first one on", []uint32{8, 9, 10, 11, 12}, 10, 2, 3, 4},
		{"of the number 0", []uint32{0, 1}, 0, 0, 2, 3},
		{"far away", []uint32{0, 1, 2, 3, 4}, 5, 0, 0, 1},
		{"up to the greatest number", []uint32{math.MaxUint32 - 1, math.MaxUint32}, math.MaxUint32 - 1, 0, 2, 3}, // the number 0 stands in one place with the greatest one
	} {
		d, list := written(c.numbers...)
		wantScan(t, d, 2, 5, c.first, list[c.from:c.from+c.n], api.OK)
		if d.Ops() != c.ops {
			t.Errorf("%s: %d operations, wanted %d", c.name, d.Ops(), c.ops)
		}
	}
	d, _ := written(8, 9, 10, 11, 12)
	d.Write(7, packed(api.Chunk{Number: 13, Bytes: "x"})) // a block behind the region
	if list, _ := Scan(d, 2, 5, 8); len(list) != 5 {
		t.Errorf("a region of 5 blocks: %d chunks", len(list))
	}
}

// first goes on within 32 bits, in a region in which the numbers go round there.
func TestScanWithin32Bits(t *testing.T) { // P11.6
	d := disk.New(8)
	var want []api.Chunk
	for i := range 8 {
		c := api.Chunk{Epoch: 1, Number: math.MaxUint32 - 3 + uint32(i), Offset: uint64(i), Bytes: "x"}
		d.Write(int(c.Number%8), packed(c))
		want = append(want, c)
	}
	wantScan(t, d, 0, 8, math.MaxUint32-3, want, api.OK)
	wantScan(t, d, 0, 8, math.MaxUint32, want[3:], api.OK)
	wantScan(t, d, 0, 8, 0, want[4:], api.OK)
	wantScan(t, d, 0, 8, 5, nil, api.OK)
}

// A block that is none of the log's, at each place: noughts, a torn one, another payload, a turned bit.
func TestScanNoBlock(t *testing.T) { // P11.6
	for k := range 5 {
		whole, list := written(8, 9, 10, 11, 12)
		b := 2 + (8+k)%5
		was, _ := whole.Read(b)
		torn := was
		copy(torn[64:128], make([]byte, 64))
		turned := was
		turned[255] ^= 1
		behind := was
		behind[247] = 1
		for _, x := range []api.Block{{}, torn, turned, behind} {
			d, _ := written(8, 9, 10, 11, 12)
			d.Write(b, x)
			d.Plan(nil, 0)
			wantScan(t, d, 2, 5, 8, list[:k], api.OK)
			if d.Ops() != k+1 {
				t.Errorf("the block %d is none: %d operations", k, d.Ops())
			}
		}
	}
}

func TestScanFails(t *testing.T) { // P11.6
	for k := 1; k <= 5; k++ {
		d, list := written(8, 9, 10, 11, 12)
		d.Plan([]int{k}, 0)
		wantScan(t, d, 2, 5, 8, nil, api.ErrIO)
		if d.Ops() != k {
			t.Errorf("it fails at %d: %d operations", k, d.Ops())
		}
		d.Plan(nil, 0)
		wantScan(t, d, 2, 5, 8, list, api.OK)
		d.Plan([]int{k}, k)
		wantScan(t, d, 2, 5, 8, nil, api.ErrDown)
		if d.Ops() != k {
			t.Errorf("the power goes at %d: %d operations", k, d.Ops())
		}
		wantScan(t, d, 2, 5, 8, nil, api.ErrDown)
	}
	d, list := written(8, 9, 10)
	d.Plan([]int{4}, 0) // of the one that is none, too
	wantScan(t, d, 2, 5, 8, nil, api.ErrIO)
	d.Plan([]int{5}, 0) // and those behind it aren't read
	wantScan(t, d, 2, 5, 8, list, api.OK)
}

// It reads what was written and doesn't last yet, as a Read does, and lets nothing last.
func TestScanPending(t *testing.T) { // P11.6
	d, list := written(8, 9)
	wantScan(t, d, 2, 5, 8, list, api.OK)
	if d.Pending() != 8 {
		t.Errorf("%d pending", d.Pending())
	}
	d.Crash(nil)
	wantScan(t, d, 2, 5, 8, nil, api.OK)
}

func TestScanNewMemory(t *testing.T) { // P11.6
	d, list := written(8, 9)
	one, _ := Scan(d, 2, 5, 8)
	one[0] = api.Chunk{}
	wantScan(t, d, 2, 5, 8, list, api.OK)
}

func randomBools(r *rand.Rand, n int) []bool {
	list := make([]bool, n)
	for i := range list {
		list[i] = r.Intn(2) == 0
	}
	return list
}

// Long random scripts, held against the log told anew.
func TestScripts(t *testing.T) { // P11.1 to P11.6
	counts := map[api.Errno]int{}
	for seed := range 150 {
		r := rand.New(rand.NewSource(int64(seed)))
		size := 1 + r.Intn(9)
		at := r.Intn(4)
		var offsets []uint64
		end := uint64(r.Intn(50))
		for range r.Intn(size + 1) {
			offsets = append(offsets, end)
			end += uint64(r.Intn(3) * r.Intn(80))
		}
		first := uint32(r.Intn(100))
		x := pairOf(t, at+size+r.Intn(3), at, size, r.Uint32(), startsOf(first, offsets...), first+uint32(len(offsets)), end)
		for range 250 {
			switch k := r.Intn(20); {
			case k < 9:
				counts[x.append(strings.Repeat(string(byte('a'+r.Intn(26))), r.Intn(410)>>r.Intn(8)))]++
			case k < 13:
				counts[x.flush()]++
			case k < 16:
				span := int(x.p.end-x.p.durable) + 600
				x.trim(x.p.durable + 200 - uint64(r.Intn(span)))
			case k < 18:
				x.plan([]int{r.Intn(9) - 1, r.Intn(9) - 1}, r.Intn(20)-3)
			default:
				x.crash(randomBools(r, r.Intn(x.p.d.Pending()+6)))
			}
		}
	}
	for _, e := range []api.Errno{api.OK, api.ErrArg, api.ErrFull, api.ErrIO, api.ErrDown} {
		if counts[e] < 100 {
			t.Errorf("the error %d was answered %d times", e, counts[e])
		}
	}
}
