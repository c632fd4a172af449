package disk

import (
	"math"
	"math/rand"
	"slices"
	"testing"

	"varve/api"
)

// filled is a block whose bytes tell their places and the seed.
func filled(seed int) api.Block {
	var x api.Block
	for i := range x {
		x[i] = byte(i + i/64 + seed*37 + 1)
	}
	return x
}

// mixed is a block that has the sectors of x where take tells so, those of y else.
func mixed(x, y api.Block, take ...bool) api.Block {
	for i, t := range take {
		if t {
			copy(y[i*64:i*64+64], x[i*64:i*64+64])
		}
	}
	return y
}

// outside are numbers that are no block's of a disk of n blocks.
func outside(n int) []int {
	return []int{math.MinInt, math.MinInt + 1, -1 << 32, -n, -2, -1, n, n + 1, 2 * n, 4 * n, 1<<32 + n, 1 << 32, 1 << 62, math.MaxInt - 1, math.MaxInt}
}

// state is all that a disk tells, of each block and of itself.
type state struct {
	size, ops, pending int
	down               bool
	seen, sure         []api.Block
}

func stateOf(d *Disk) state {
	s := state{size: d.Size(), ops: d.Ops(), pending: d.Pending(), down: d.Down()}
	for b := range d.Size() {
		s.seen = append(s.seen, d.Seen(b))
		s.sure = append(s.sure, d.Sure(b))
	}
	return s
}

func (s state) same(t state) bool {
	return s.size == t.size && s.ops == t.ops && s.pending == t.pending && s.down == t.down &&
		slices.Equal(s.seen, t.seen) && slices.Equal(s.sure, t.sure)
}

// same fails a test in which a disk tells something else than s.
func same(t *testing.T, what string, d *Disk, s state) {
	t.Helper()
	if got := stateOf(d); !got.same(s) {
		t.Errorf("%s: size %d, ops %d, pending %d, down %v; wanted %d, %d, %d, %v (or a block differs: seen %v, sure %v)", what,
			got.size, got.ops, got.pending, got.down, s.size, s.ops, s.pending, s.down, slices.Equal(got.seen, s.seen), slices.Equal(got.sure, s.sure))
	}
}

func wantWrite(t *testing.T, d *Disk, b int, x api.Block, want api.Errno) {
	t.Helper()
	if e := d.Write(b, x); e != want {
		t.Errorf("Write(%d): %d, wanted %d", b, e, want)
	}
}

func wantRead(t *testing.T, d *Disk, b int, x api.Block, want api.Errno) {
	t.Helper()
	if got, e := d.Read(b); e != want || got != x {
		t.Errorf("Read(%d): %d, wanted %d; the block %v", b, e, want, got == x)
	}
}

func wantSync(t *testing.T, d *Disk, want api.Errno) {
	t.Helper()
	if e := d.Sync(); e != want {
		t.Errorf("Sync: %d, wanted %d", e, want)
	}
}

func wantBlocks(t *testing.T, d *Disk, b int, seen, sure api.Block) {
	t.Helper()
	if d.Seen(b) != seen {
		t.Errorf("Seen(%d) is another block", b)
	}
	if d.Sure(b) != sure {
		t.Errorf("Sure(%d) is another block", b)
	}
}

func wantNumbers(t *testing.T, d *Disk, ops, pending int, down bool) {
	t.Helper()
	if d.Ops() != ops || d.Pending() != pending || d.Down() != down {
		t.Errorf("ops %d, pending %d, down %v; wanted %d, %d, %v", d.Ops(), d.Pending(), d.Down(), ops, pending, down)
	}
}

// P5.1: which numbers of blocks there are.
func TestNewSizes(t *testing.T) {
	for _, n := range []int{math.MinInt, -1 << 32, -2048, -1, 0, 2049, 2050, 4096, 1 << 32, 1<<32 + 1, math.MaxInt} {
		if New(n) != nil {
			t.Errorf("New(%d) is a disk", n)
		}
	}
	for _, n := range []int{1, 2, 3, 2047, 2048} {
		d := New(n)
		if d == nil {
			t.Fatalf("New(%d) is none", n)
		}
		if d.Size() != n {
			t.Errorf("New(%d): size %d", n, d.Size())
		}
		wantNumbers(t, d, 0, 0, false)
		for b := range n {
			wantBlocks(t, d, b, api.Block{}, api.Block{})
		}
	}
}

// P5.1: two disks have nothing in common.
func TestDisksAreApart(t *testing.T) {
	one, other := New(2), New(2)
	wantWrite(t, one, 0, filled(1), api.OK)
	one.Plan([]int{1}, 2)
	same(t, "the other one", other, stateOf(New(2)))
	wantSync(t, other, api.OK)
	wantBlocks(t, one, 0, filled(1), api.Block{})
}

// P5.1: every call of a nil disk.
func TestNilDisk(t *testing.T) {
	var d *Disk
	for range 2 {
		for _, b := range append(outside(1), 0, 1, 2047) {
			wantRead(t, d, b, api.Block{}, api.ErrDown)
			wantWrite(t, d, b, filled(1), api.ErrDown)
			wantBlocks(t, d, b, api.Block{}, api.Block{})
		}
		wantSync(t, d, api.ErrDown)
		wantNumbers(t, d, 0, 0, true)
		if d.Size() != 0 {
			t.Errorf("size %d", d.Size())
		}
		d.Plan([]int{1}, 1)
		d.Plan(nil, 0)
		d.Crash(nil)
		d.Crash([]bool{true})
	}
}

// P5.2, P5.3, P5.4, P5.5: the chapter's examples.
func TestExamples(t *testing.T) {
	d, x := New(2), filled(1)
	wantWrite(t, d, 1, x, api.OK)
	wantRead(t, d, 1, x, api.OK)
	wantBlocks(t, d, 1, x, api.Block{})
	wantNumbers(t, d, 2, 4, false)
	d.Crash([]bool{false, true})
	half := mixed(x, api.Block{}, false, true)
	wantRead(t, d, 1, half, api.OK)
	wantBlocks(t, d, 1, half, half)
	d.Plan([]int{2}, 3)
	wantRead(t, d, 0, api.Block{}, api.OK)
	wantRead(t, d, 1, api.Block{}, api.ErrIO)
	wantSync(t, d, api.ErrDown)
	wantNumbers(t, d, 3, 0, true)
	wantRead(t, d, 0, api.Block{}, api.ErrDown)
	wantNumbers(t, d, 3, 0, true)
}

// P5.2, P5.3: the first block, the last one, and what lies between; each operation is counted.
func TestWriteReadSync(t *testing.T) {
	for _, n := range []int{1, 2, 7, 2048} {
		d := New(n)
		blocks := slices.Compact([]int{0, n / 2, n - 1})
		ops := 0
		for i, b := range blocks {
			wantWrite(t, d, b, filled(b), api.OK)
			wantRead(t, d, b, filled(b), api.OK)
			ops += 2
			wantBlocks(t, d, b, filled(b), api.Block{})
			wantNumbers(t, d, ops, 4*(i+1), false)
		}
		wantSync(t, d, api.OK)
		wantNumbers(t, d, ops+1, 0, false)
		for _, b := range blocks {
			wantRead(t, d, b, filled(b), api.OK)
			wantBlocks(t, d, b, filled(b), filled(b))
		}
		wantNumbers(t, d, ops+1+len(blocks), 0, false)
		if d.Size() != n {
			t.Errorf("size %d, wanted %d", d.Size(), n)
		}
	}
}

// P5.2: a Write reaches no block but its own, and all of that one.
func TestWriteIsAlone(t *testing.T) {
	d := New(5)
	for b := range 5 {
		wantWrite(t, d, b, filled(b), api.OK)
	}
	wantSync(t, d, api.OK)
	wantWrite(t, d, 2, filled(9), api.OK)
	for b := range 5 {
		seen := filled(b)
		if b == 2 {
			seen = filled(9)
		}
		wantRead(t, d, b, seen, api.OK)
		wantBlocks(t, d, b, seen, filled(b))
	}
}

// P5.2: a block written over with noughts is noughts, and this is a write as any other.
func TestWriteNoughts(t *testing.T) {
	d := New(1)
	wantWrite(t, d, 0, filled(1), api.OK)
	wantSync(t, d, api.OK)
	wantWrite(t, d, 0, api.Block{}, api.OK)
	wantNumbers(t, d, 3, 4, false)
	wantRead(t, d, 0, api.Block{}, api.OK)
	wantBlocks(t, d, 0, api.Block{}, filled(1))
	d.Crash([]bool{true, true, true, true})
	wantRead(t, d, 0, api.Block{}, api.OK)
	wantBlocks(t, d, 0, api.Block{}, api.Block{})
}

// P5.2, P5.3: who writes a block twice ahead of a Sync has eight writes pending, and reads the second one.
func TestWriteTwice(t *testing.T) {
	d := New(2)
	wantWrite(t, d, 1, filled(1), api.OK)
	wantWrite(t, d, 1, filled(2), api.OK)
	wantNumbers(t, d, 2, 8, false)
	wantRead(t, d, 1, filled(2), api.OK)
	wantBlocks(t, d, 1, filled(2), api.Block{})
	wantWrite(t, d, 1, filled(2), api.OK)
	wantNumbers(t, d, 4, 12, false)
	wantSync(t, d, api.OK)
	wantNumbers(t, d, 5, 0, false)
	wantBlocks(t, d, 1, filled(2), filled(2))
}

// P5.2: a Sync with nothing pending is done, and counted.
func TestSyncNothing(t *testing.T) {
	d := New(1)
	wantSync(t, d, api.OK)
	wantNumbers(t, d, 1, 0, false)
	wantWrite(t, d, 0, filled(1), api.OK)
	wantSync(t, d, api.OK)
	wantSync(t, d, api.OK)
	wantNumbers(t, d, 4, 0, false)
	wantBlocks(t, d, 0, filled(1), filled(1))
}

// P5.2, P5.3: a refused argument is ErrArg with the power on, ErrDown with it off, and never counted.
func TestRefusedArguments(t *testing.T) {
	for _, n := range []int{1, 3, 2048} {
		d := New(n)
		wantWrite(t, d, n-1, filled(1), api.OK)
		d.Plan([]int{2}, 3)
		on := stateOf(d)
		for _, b := range outside(n) {
			wantRead(t, d, b, api.Block{}, api.ErrArg)
			wantWrite(t, d, b, filled(2), api.ErrArg)
			wantBlocks(t, d, b, api.Block{}, api.Block{})
		}
		same(t, "refused with the power on", d, on)
		wantRead(t, d, n-1, filled(1), api.OK)
		wantRead(t, d, n-1, api.Block{}, api.ErrIO)
		wantRead(t, d, n-1, api.Block{}, api.ErrDown)
		off := stateOf(d)
		for _, b := range append(outside(n), 0, n-1) {
			wantRead(t, d, b, api.Block{}, api.ErrDown)
			wantWrite(t, d, b, filled(2), api.ErrDown)
		}
		for _, b := range outside(n) {
			wantBlocks(t, d, b, api.Block{}, api.Block{})
		}
		wantSync(t, d, api.ErrDown)
		same(t, "refused with the power off", d, off)
	}
}

// P5.3: asking is counted as nothing, and tells the same with the power off.
func TestAskingIsNoOperation(t *testing.T) {
	d := New(3)
	wantWrite(t, d, 1, filled(1), api.OK)
	wantSync(t, d, api.OK)
	wantWrite(t, d, 1, filled(2), api.OK)
	d.Plan([]int{1}, 2)
	on := stateOf(d)
	for range 5 {
		same(t, "asked again", d, on)
	}
	wantSync(t, d, api.ErrIO)
	wantSync(t, d, api.ErrDown)
	off := on
	off.ops, off.down = 2, true
	for range 5 {
		same(t, "asked with the power off", d, off)
	}
	wantBlocks(t, d, 1, filled(2), filled(1))
}

// operations are the three kinds, of which each tells its error.
func operations() []func(d *Disk) api.Errno {
	return []func(d *Disk) api.Errno{
		func(d *Disk) api.Errno {
			x, e := d.Read(1)
			if e != api.OK && x != (api.Block{}) {
				return -1
			}
			return e
		},
		func(d *Disk) api.Errno { return d.Write(1, filled(7)) },
		func(d *Disk) api.Errno { return d.Sync() },
	}
}

// P5.4: each kind fails at its count, and nothing but the count has changed then.
func TestPlanFails(t *testing.T) {
	for kind, op := range operations() {
		for _, at := range []int{1, 2, 5} {
			d := New(2)
			wantWrite(t, d, 0, filled(1), api.OK)
			wantSync(t, d, api.OK)
			wantWrite(t, d, 1, filled(2), api.OK)
			d.Plan([]int{at, at, 0, -1, math.MinInt, math.MaxInt}, 0)
			wantNumbers(t, d, 0, 4, false)
			for range at - 1 {
				wantRead(t, d, 1, filled(2), api.OK)
			}
			want := stateOf(d)
			want.ops = at
			if e := op(d); e != api.ErrIO {
				t.Errorf("kind %d at %d: %d", kind, at, e)
			}
			same(t, "behind the failure", d, want)
			if e := op(d); e != api.OK {
				t.Errorf("kind %d behind %d: %d", kind, at, e)
			}
			wantNumbers(t, d, at+1, d.Pending(), false)
		}
	}
}

// P5.4: the fuse turns the power off, and nothing else but the count has changed then.
func TestPlanFuse(t *testing.T) {
	for kind, op := range operations() {
		for _, fuse := range []int{1, 2, 5} {
			for _, fails := range [][]int{nil, {}, {fuse}, {fuse + 1}} {
				d := New(2)
				wantWrite(t, d, 0, filled(1), api.OK)
				wantSync(t, d, api.OK)
				wantWrite(t, d, 1, filled(2), api.OK)
				d.Plan(fails, fuse)
				for range fuse - 1 {
					wantRead(t, d, 1, filled(2), api.OK)
				}
				want := stateOf(d)
				want.ops, want.down = fuse, true
				for range 3 {
					if e := op(d); e != api.ErrDown {
						t.Errorf("kind %d at %d: %d", kind, fuse, e)
					}
					same(t, "behind the fuse", d, want)
				}
			}
		}
	}
}

// P5.4: a fuse below 1 is none, numbers below 1 in fails are met by no operation.
func TestPlanOfNothing(t *testing.T) {
	for _, fuse := range []int{0, -1, -2, math.MinInt} {
		for _, fails := range [][]int{nil, {}, {0}, {-1, -1, 0, math.MinInt}} {
			d := New(2)
			d.Plan(fails, fuse)
			for i := range 10 {
				for kind, op := range operations() {
					if e := op(d); e != api.OK {
						t.Errorf("fuse %d, kind %d, round %d: %d", fuse, kind, i, e)
					}
				}
			}
			wantNumbers(t, d, 30, 0, false)
		}
	}
}

// P5.4: all numbers in fails are met, in whatever order they stand.
func TestPlanManyFails(t *testing.T) {
	d := New(2)
	d.Plan([]int{7, 2, 3, 2, 9, 7}, 11)
	for i := 1; i <= 10; i++ {
		want := api.OK
		if slices.Contains([]int{2, 3, 7, 9}, i) {
			want = api.ErrIO
		}
		wantSync(t, d, want)
		wantNumbers(t, d, i, 0, false)
	}
	wantSync(t, d, api.ErrDown)
	wantNumbers(t, d, 11, 0, true)
}

// P5.4: a plan takes the place of the one ahead of it, and counts from 0 on.
func TestPlanAgain(t *testing.T) {
	d := New(2)
	d.Plan([]int{1, 3}, 4)
	wantSync(t, d, api.ErrIO)
	d.Plan([]int{2}, 0)
	wantNumbers(t, d, 0, 0, false)
	wantSync(t, d, api.OK)
	wantSync(t, d, api.ErrIO)
	for range 5 {
		wantSync(t, d, api.OK)
	}
	d.Plan(nil, 2)
	wantSync(t, d, api.OK)
	wantSync(t, d, api.ErrDown)
	wantNumbers(t, d, 2, 0, true)
}

// P5.4, P5.5: a plan that is laid with the power off leaves it off; a crash takes it away.
func TestPlanWithThePowerOff(t *testing.T) {
	d := New(2)
	wantWrite(t, d, 0, filled(1), api.OK)
	d.Plan(nil, 1)
	wantSync(t, d, api.ErrDown)
	d.Plan([]int{1, 2}, 3)
	wantNumbers(t, d, 0, 4, true)
	wantBlocks(t, d, 0, filled(1), api.Block{})
	wantRead(t, d, 0, api.Block{}, api.ErrDown)
	wantNumbers(t, d, 0, 4, true)
	d.Crash([]bool{true})
	for range 6 {
		wantSync(t, d, api.OK)
	}
	wantNumbers(t, d, 6, 0, false)
}

// P5.4, P5.5: slices that are handed in are neither changed nor kept, nor is their spare room.
func TestSlicesAreNotKept(t *testing.T) {
	room := []int{3, 2, 3, 11, 12, 13}
	fails := room[:3]
	d := New(2)
	d.Plan(fails, 0)
	if !slices.Equal(room, []int{3, 2, 3, 11, 12, 13}) {
		t.Errorf("Plan changed what it was given: %v", room)
	}
	copy(room, []int{1, 1, 1, 1, 1, 1})
	for i := 1; i <= 5; i++ {
		want := api.OK
		if i == 2 || i == 3 {
			want = api.ErrIO
		}
		wantSync(t, d, want)
	}
	wantWrite(t, d, 0, filled(1), api.OK)
	keeps := []bool{true, false, true, false, true}
	keep := keeps[:3]
	d.Crash(keep)
	if !slices.Equal(keeps, []bool{true, false, true, false, true}) {
		t.Errorf("Crash changed what it was given: %v", keeps)
	}
	copy(keeps, []bool{false, true, false, true, false})
	x := mixed(filled(1), api.Block{}, true, false, true)
	wantBlocks(t, d, 0, x, x)
	wantWrite(t, d, 0, filled(2), api.OK)
	d.Crash(nil)
	wantBlocks(t, d, 0, x, x)
}

// crashed is a disk of two blocks, its block 1 synced as filled(1) and written over by filled(2), then crashed.
func crashed(t *testing.T, off bool, keep []bool) *Disk {
	t.Helper()
	d := New(2)
	wantWrite(t, d, 0, filled(3), api.OK)
	wantWrite(t, d, 1, filled(1), api.OK)
	wantSync(t, d, api.OK)
	wantWrite(t, d, 1, filled(2), api.OK)
	if off {
		d.Plan([]int{2, 3, 4}, 1)
		wantRead(t, d, 0, api.Block{}, api.ErrDown)
	} else {
		d.Plan([]int{2, 3, 4}, 5)
		wantRead(t, d, 0, filled(3), api.OK)
	}
	wantNumbers(t, d, 1, 4, off)
	d.Crash(keep)
	return d
}

// P5.5: any of the four sectors, with the power on and off, with a keep that is too short or too long.
func TestCrashKeeps(t *testing.T) {
	for mask := range 16 {
		for length := range 9 {
			keep := make([]bool, length)
			var take [4]bool
			for i := range keep {
				keep[i] = i >= 4 || mask>>i&1 == 1
				if i < 4 {
					take[i] = keep[i]
				}
			}
			for _, off := range []bool{false, true} {
				d := crashed(t, off, keep)
				x := mixed(filled(2), filled(1), take[:]...)
				wantNumbers(t, d, 0, 0, false)
				wantBlocks(t, d, 0, filled(3), filled(3))
				wantBlocks(t, d, 1, x, x)
				for range 6 {
					wantRead(t, d, 1, x, api.OK)
				}
				wantNumbers(t, d, 6, 0, false)
			}
		}
	}
}

// P5.5: with nothing pending a crash leaves all blocks, whatever keep is.
func TestCrashWithNothingPending(t *testing.T) {
	for _, keep := range [][]bool{nil, {}, {true}, {false}, {true, true, true, true, true, true}} {
		d := New(2)
		wantWrite(t, d, 1, filled(1), api.OK)
		wantSync(t, d, api.OK)
		want := stateOf(d)
		want.ops = 0
		d.Crash(keep)
		same(t, "behind a crash", d, want)
		d.Crash(keep)
		same(t, "behind another one", d, want)
	}
}

// P5.5: of two writes of one sector the first, the second, both or none.
func TestCrashOfTwoWrites(t *testing.T) {
	for s := range 4 {
		for mask := range 4 {
			d := New(1)
			wantWrite(t, d, 0, filled(1), api.OK)
			wantSync(t, d, api.OK)
			wantWrite(t, d, 0, filled(2), api.OK)
			wantWrite(t, d, 0, filled(3), api.OK)
			keep := make([]bool, 8)
			take := make([]bool, 4)
			take[s] = true
			want := filled(1)
			if mask&1 == 1 {
				keep[s], want = true, mixed(filled(2), filled(1), take...)
			}
			if mask&2 == 2 {
				keep[4+s], want = true, mixed(filled(3), filled(1), take...)
			}
			d.Crash(keep)
			wantBlocks(t, d, 0, want, want)
			wantNumbers(t, d, 0, 0, false)
		}
	}
}

// P5.5: the places in keep follow the order of the Writes, not that of the blocks.
func TestCrashOrder(t *testing.T) {
	d := New(3)
	for _, b := range []int{2, 0, 1} {
		wantWrite(t, d, b, filled(b), api.OK)
	}
	keep := make([]bool, 12)
	keep[0], keep[5], keep[11] = true, true, true
	d.Crash(keep)
	two := mixed(filled(2), api.Block{}, true)
	nought := mixed(filled(0), api.Block{}, false, true)
	one := mixed(filled(1), api.Block{}, false, false, false, true)
	wantBlocks(t, d, 2, two, two)
	wantBlocks(t, d, 0, nought, nought)
	wantBlocks(t, d, 1, one, one)
}

// P5.5: writes ahead of a Sync that failed are still pending; a failed Write is none of them.
func TestCrashBehindFailures(t *testing.T) {
	d := New(2)
	d.Plan([]int{2, 3}, 0)
	wantWrite(t, d, 0, filled(1), api.OK)
	wantWrite(t, d, 1, filled(2), api.ErrIO)
	wantSync(t, d, api.ErrIO)
	wantWrite(t, d, 1, filled(3), api.OK)
	wantNumbers(t, d, 4, 8, false)
	d.Crash([]bool{true, true, true, true, false, true, true, true})
	one := mixed(filled(3), api.Block{}, false, true, true, true)
	wantBlocks(t, d, 0, filled(1), filled(1))
	wantBlocks(t, d, 1, one, one)
}

// P5.6: what was synced is there behind crashes; a crash that keeps all leaves what was read ahead of it.
func TestItFollows(t *testing.T) {
	d := New(4)
	for b := range 4 {
		wantWrite(t, d, b, filled(b), api.OK)
	}
	wantSync(t, d, api.OK)
	wantWrite(t, d, 3, filled(8), api.OK)
	wantWrite(t, d, 3, filled(9), api.OK)
	wantWrite(t, d, 0, filled(7), api.OK)
	seen := stateOf(d).seen
	d.Crash(slices.Repeat([]bool{true}, d.Pending()))
	if s := stateOf(d); !slices.Equal(s.seen, seen) || !slices.Equal(s.sure, seen) {
		t.Error("a crash that keeps all has changed what is read")
	}
	for i := range 5 {
		wantWrite(t, d, 2, filled(20+i), api.OK)
		d.Crash(nil)
		if s := stateOf(d); !slices.Equal(s.seen, seen) || !slices.Equal(s.sure, seen) {
			t.Error("a crash that keeps nothing has changed what was synced")
		}
	}
}

// plain is the disk told anew: all bytes that last, and the list of what is pending.
type plain struct {
	lasting []byte
	list    []struct {
		at    int
		bytes []byte
	}
	off       bool
	ops, fuse int
	fails     []int
}

func (p *plain) seen() []byte {
	all := slices.Clone(p.lasting)
	for _, w := range p.list {
		copy(all[w.at:], w.bytes)
	}
	return all
}

func (p *plain) operate(b int, do func()) api.Errno {
	if p.off {
		return api.ErrDown
	}
	if b < 0 || b >= len(p.lasting)/256 {
		return api.ErrArg
	}
	p.ops++
	if p.fuse >= 1 && p.ops == p.fuse {
		p.off = true
		return api.ErrDown
	}
	if slices.Contains(p.fails, p.ops) {
		return api.ErrIO
	}
	do()
	return api.OK
}

func (p *plain) write(b int, x api.Block) api.Errno {
	return p.operate(b, func() {
		for i := range 4 {
			p.list = append(p.list, struct {
				at    int
				bytes []byte
			}{b*256 + i*64, slices.Clone(x[i*64 : i*64+64])})
		}
	})
}

func (p *plain) sync() api.Errno {
	return p.operate(0, func() {
		p.lasting, p.list = p.seen(), nil
	})
}

func (p *plain) crash(keep []bool) {
	for i, w := range p.list {
		if i < len(keep) && keep[i] {
			copy(p.lasting[w.at:], w.bytes)
		}
	}
	p.list, p.off, p.ops, p.fuse, p.fails = nil, false, 0, 0, nil
}

func (p *plain) state() state {
	s := state{size: len(p.lasting) / 256, ops: p.ops, pending: len(p.list), down: p.off}
	seen := p.seen()
	for b := range s.size {
		s.seen = append(s.seen, api.Block(seen[b*256:b*256+256]))
		s.sure = append(s.sure, api.Block(p.lasting[b*256:b*256+256]))
	}
	return s
}

func randomBools(r *rand.Rand, n int) []bool {
	list := make([]bool, n)
	for i := range list {
		list[i] = r.Intn(2) == 0
	}
	return list
}

// P5.1 to P5.6: long random scripts, held against the disk told anew.
func TestScripts(t *testing.T) {
	for seed := range 60 {
		r := rand.New(rand.NewSource(int64(seed)))
		n := 1 + r.Intn(5)
		d, p := New(n), &plain{lasting: make([]byte, n*256)}
		for step := range 300 {
			b := r.Intn(n+2) - 1
			got, want := api.OK, api.OK
			switch k := r.Intn(20); {
			case k < 9:
				x := filled(r.Intn(256))
				got, want = d.Write(b, x), p.write(b, x)
			case k < 14:
				var x, y api.Block
				x, got = d.Read(b)
				want = p.operate(b, func() { y = api.Block(p.seen()[b*256 : b*256+256]) })
				if x != y {
					t.Fatalf("seed %d, step %d: Read(%d) is another block", seed, step, b)
				}
			case k < 16:
				got, want = d.Sync(), p.sync()
			case k < 18:
				fails := []int{r.Intn(9) - 1, r.Intn(9) - 1}
				fuse := r.Intn(20) - 3
				d.Plan(fails, fuse)
				p.ops, p.fuse, p.fails = 0, fuse, fails
			default:
				keep := randomBools(r, r.Intn(len(p.list)+6))
				d.Crash(keep)
				p.crash(keep)
			}
			if got != want {
				t.Fatalf("seed %d, step %d: %d, wanted %d", seed, step, got, want)
			}
			if !stateOf(d).same(p.state()) {
				t.Fatalf("seed %d, step %d: the disk tells something else", seed, step)
			}
		}
	}
}

// P5.2, P5.5: many writes without a Sync don't make reads slow.
func TestManyPending(t *testing.T) {
	d := New(2048)
	for i := range 20000 {
		wantWrite(t, d, i%2048, filled(i), api.OK)
		wantRead(t, d, i%2048, filled(i), api.OK)
	}
	wantNumbers(t, d, 40000, 80000, false)
	d.Crash(slices.Repeat([]bool{true}, 80000))
	for i := 20000 - 2048; i < 20000; i++ {
		wantBlocks(t, d, i%2048, filled(i), filled(i))
	}
}
