package log

import (
	"math/rand"
	"slices"
	"strconv"
	"strings"
	"testing"

	"varve/api"
	"varve/disk"
	"varve/ring"
)

// tale is a log over all its lives: which texts were flushed, and which were laid behind them.
type tale struct {
	t        *testing.T
	d        *disk.Disk
	at, size int
	l        *Log
	epoch    uint32
	tail     uint32 // with lsn: what a master would tell
	lsn      uint64
	flushed  []api.Item // from lsn on
	loose    []api.Item
	texts    int // how many were ever laid
}

func taleOf(t *testing.T, blocks, at, size int) *tale {
	t.Helper()
	a := &tale{t: t, d: disk.New(blocks), at: at, size: size, lsn: 1}
	a.open()
	return a
}

// open tells what is on the disk, holds it against what has to be there, and goes on with it in a new life.
func (a *tale) open() []api.Chunk {
	a.t.Helper()
	chunks, e := Scan(a.d, a.at, a.size, a.tail)
	if e != api.OK {
		a.t.Fatalf("Scan: %d", e)
	}
	base, stream, starts, epoch := ring.Join(a.tail, chunks)
	if len(starts) == 0 {
		base = a.lsn
	}
	items, end := ring.Items(base, stream, a.lsn)
	kept, number := ring.Keep(a.tail, starts, end)
	n := len(a.flushed)
	if len(items) < n || !slices.Equal(items[:n], a.flushed) {
		a.t.Fatalf("%d texts are told, but %d were flushed", len(items), n)
	}
	if rest := items[n:]; len(rest) > len(a.loose) || !slices.Equal(rest, a.loose[:len(rest)]) {
		a.t.Fatalf("behind %d texts that were flushed %d are told, which are no beginning of the %d that were laid", n, len(rest), len(a.loose))
	}
	if epoch > a.epoch {
		a.t.Fatalf("a block of the epoch %d in the life %d", epoch, a.epoch)
	}
	a.epoch++
	a.l = New(a.d, a.at, a.size, a.epoch, kept, number, end)
	if a.l == nil {
		a.t.Fatalf("New(.., %v, %d, %d) is nil", kept, number, end)
	}
	wantNumbers(a.t, "a new life", a.l, numbers{end, end, a.size - len(kept), a.tail})
	a.flushed, a.loose = items, nil
	return chunks
}

func (a *tale) append(n int) api.Errno {
	a.t.Helper()
	s := strconv.Itoa(a.texts) + "."
	s = (s + strings.Repeat("t", max(0, n-len(s))))[:n]
	at, e := a.l.Append(s)
	if e == api.OK {
		a.texts++
		a.loose = append(a.loose, api.Item{LSN: at, Bytes: s})
	}
	return e
}

func (a *tale) flush() api.Errno {
	e := a.l.Flush()
	if e == api.OK {
		a.flushed = append(a.flushed, a.loose...)
		a.loose = nil
	}
	return e
}

// mark lets go what is ahead of the flushed text with this place in their order.
func (a *tale) mark(n int) {
	a.lsn = a.l.Durable()
	if n < len(a.flushed) {
		a.lsn = a.flushed[n].LSN
	}
	a.tail = a.l.From(a.lsn)
	a.l.Trim(a.lsn)
	a.flushed = slices.Clone(a.flushed[min(n, len(a.flushed)):])
}

// crash turns the power off and on, and begins a new life.
func (a *tale) crash(keep []bool) []api.Chunk {
	a.t.Helper()
	a.d.Crash(keep)
	return a.open()
}

// keeps are all, none, the first ones, the last ones and some of n sectors.
func keeps(r *rand.Rand, n int) [][]bool {
	list := [][]bool{slices.Repeat([]bool{true}, n), nil}
	for k := range n {
		first, last := make([]bool, n), make([]bool, n)
		for i := range n {
			first[i], last[i] = i <= k, i >= k
		}
		list = append(list, first, last)
	}
	for range 40 {
		list = append(list, randomBools(r, n))
	}
	return list
}

// Behind a crash that keeps everything, nothing, or some sectors; the power goes at each place.
func TestCrash(t *testing.T) { // P11.7
	r := rand.New(rand.NewSource(1))
	told := map[int]int{}
	for fuse := 1; fuse <= 5; fuse++ {
		for _, keep := range keeps(r, 12) {
			a := taleOf(t, 8, 1, 6)
			a.append(2)
			a.append(300)
			if e := a.flush(); e != api.OK {
				t.Fatalf("Flush: %d", e)
			}
			a.append(100)
			a.append(200)
			a.append(150)
			a.d.Plan(nil, fuse)
			want := api.ErrDown
			if fuse == 5 {
				want = api.OK
			}
			if e := a.flush(); e != want {
				t.Fatalf("the power goes at %d: %d", fuse, e)
			}
			a.crash(keep)
			told[len(a.flushed)]++
		}
	}
	for n := 2; n <= 5; n++ {
		if told[n] == 0 {
			t.Errorf("never were %d texts told: %v", n, told)
		}
	}
	if told[0]+told[1] != 0 {
		t.Errorf("texts that were flushed are lost: %v", told)
	}
}

// A text that was laid and never flushed is told by no life, an open part the less.
func TestLost(t *testing.T) { // P11.7
	a := taleOf(t, 8, 1, 6)
	for n := range 5 {
		for range n {
			a.append(100)
		}
		a.crash(nil)
		if len(a.flushed) != 0 {
			t.Errorf("%d texts are told", len(a.flushed))
		}
	}
	a.append(50)
	a.flush()
	a.append(50)
	a.crash(nil)
	if len(a.flushed) != 1 {
		t.Errorf("%d texts are told", len(a.flushed))
	}
}

// elder has left blocks behind the one in which the texts that are told end: a frame was broken off in its third block.
func elder(t *testing.T) *tale {
	t.Helper()
	a := taleOf(t, 13, 1, 12)
	a.append(50)
	a.flush()
	a.append(30)
	a.append(400)
	a.append(300)
	a.append(100)
	a.d.Plan(nil, 5) // at the Sync
	if e := a.flush(); e != api.ErrDown {
		t.Fatalf("Flush: %d", e)
	}
	keep := slices.Repeat([]bool{true}, a.d.Pending())
	keep[9] = false
	chunks := a.crash(keep)
	if len(chunks) != 3 || len(a.flushed) != 2 || a.l.Tail() != 0 || a.l.Free() != 10 {
		t.Fatalf("the elder log has left %d blocks and %d texts, %d blocks are free", len(chunks), len(a.flushed), a.l.Free())
	}
	return a
}

// A fresh log's first block is there ahead of the others: none of them is found behind what an elder one has left in its place.
func TestFresh(t *testing.T) { // P11.3, P11.7
	for _, frames := range [][]int{{20}, {214}, {230}, {406, 100}} {
		for fuse := 1; fuse <= 7; fuse++ {
			for mask := range 1 << 8 {
				a := elder(t)
				first := a.l.Tail() + 2
				for _, n := range frames {
					a.append(n - 6)
				}
				a.d.Plan(nil, fuse)
				a.flush()
				keep := make([]bool, 8)
				for i := range keep {
					keep[i] = mask>>i&1 == 1
				}
				young, epoch := 0, a.epoch
				for _, c := range a.crash(keep) {
					if c.Epoch == epoch {
						young++
						if c.Number < first || c.Number-first >= uint32(young) {
							t.Fatalf("frames of %v bytes, the power goes at %d: the block %d is found behind one of an elder log", frames, fuse, c.Number)
						}
					}
				}
			}
		}
	}
}

// A log goes on with a greater epoch over what was lost, and says the same texts or others.
func TestGoesOn(t *testing.T) { // P11.7
	for _, sizes := range [][]int{{400, 300, 100}, {1}, {200}, {208, 208}, {400}, {400, 400}, {1, 1, 1}} {
		for _, texts := range []int{2, 5} { // from the first one on that was lost, or from a new one
			for flushes := range 3 {
				a := elder(t)
				a.texts = texts
				for i, n := range sizes {
					a.append(n)
					if i < flushes {
						a.flush()
					}
				}
				for lives := range 3 {
					if e := a.flush(); e != api.OK {
						t.Fatalf("Flush: %d", e)
					}
					a.crash(nil)
					if n := len(a.flushed); n != 2+len(sizes)+lives {
						t.Errorf("%v: %d texts are told", sizes, n)
					}
					a.append(7)
				}
			}
		}
	}
}

// live does something with a log, by chance.
func (a *tale) live(r *rand.Rand) {
	switch k := r.Intn(16); {
	case k < 9:
		if a.append(1+r.Intn(400)>>r.Intn(8)) == api.ErrFull && a.flush() == api.OK {
			a.mark(r.Intn(len(a.flushed) + 1))
		}
	case k < 13:
		a.flush()
	case k < 14:
		a.d.Plan([]int{1 + r.Intn(5), 1 + r.Intn(5)}, 0)
	case k < 15:
		a.d.Plan(nil, 1+r.Intn(8))
	default:
		if a.l.Durable() == a.l.End() {
			a.mark(r.Intn(len(a.flushed) + 1))
		}
	}
}

// Over many lives, and round the region more than once.
func TestLives(t *testing.T) { // P11.7
	told := 0
	for seed := range 60 {
		r := rand.New(rand.NewSource(int64(seed)))
		size := 3 + r.Intn(8)
		at := r.Intn(3)
		a := taleOf(t, at+size+r.Intn(3), at, size)
		lives := 0
		for a.tail < 5*uint32(size) || lives < 40 {
			for range r.Intn(12) {
				a.live(r)
			}
			flushed := len(a.flushed)
			n := a.d.Pending()
			switch r.Intn(3) {
			case 0:
				a.crash(nil)
			case 1:
				a.crash(slices.Repeat([]bool{true}, n))
			default:
				a.crash(randomBools(r, n))
			}
			told += len(a.flushed) - flushed
			lives++
			if lives > 5000 {
				t.Fatalf("seed %d: the region isn't gone round", seed)
			}
		}
	}
	if told < 100 {
		t.Errorf("%d texts were told that had not been flushed", told)
	}
}
