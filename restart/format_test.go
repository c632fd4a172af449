package restart

import (
	"math"
	"slices"
	"testing"

	"varve/api"
	"varve/disk"
	"varve/master"
	"varve/page"
	"varve/seal"
)

// configs are those of the least, the greatest and some other store.
func configs() []api.Config {
	return []api.Config{
		example(),
		{Pages: 1, Undo: 1, Log: 64},
		{Pages: 16, Undo: 32, Log: 512, MaxTs: math.MaxUint32},
		{Pages: 16, Undo: 1, Log: 65, MaxTs: 1},
		{Pages: 2, Undo: 32, Log: 64, MaxTs: 7},
	}
}

// usedDisk is a disk on which something lies, some of which doesn't last.
func usedDisk(n int) *disk.Disk {
	d := disk.New(n)
	for i := range n {
		d.Write(i, blockOf(i))
	}
	d.Sync()
	for i := range n {
		if i%3 == 0 {
			d.Write(i, blockOf(i+100))
		}
	}
	d.Plan(nil, 0)
	return d
}

// newStore are the blocks of a new store, but for that of its master.
func newStore(c api.Config) []api.Block {
	list := make([]api.Block, 2)
	for _, id := range pagesOf(c) {
		list = append(list, seal.Seal(0, page.Blank(id)))
	}
	return append(list, make([]api.Block, c.Log)...)
}

// firstMaster is the block of the master of a new store.
func firstMaster(t *testing.T, c api.Config) api.Block {
	t.Helper()
	b, e := master.Pack(api.Master{Seq: 1, LSN: 1, Config: c})
	want(t, "Pack", e, api.OK)
	return b
}

func TestFormatRefused(t *testing.T) { // P23.1
	for _, c := range []api.Config{
		{},
		{Pages: 0, Undo: 6, Log: 90},
		{Pages: -1, Undo: 6, Log: 90},
		{Pages: 17, Undo: 6, Log: 90},
		{Pages: 4, Undo: 0, Log: 90},
		{Pages: 4, Undo: -6, Log: 90},
		{Pages: 4, Undo: 33, Log: 90},
		{Pages: 4, Undo: 6, Log: 63},
		{Pages: 4, Undo: 6, Log: 513},
		{Pages: 4, Undo: 6, Log: -1},
		{Pages: math.MinInt, Undo: math.MaxInt, Log: math.MaxInt},
	} {
		d := usedDisk(700)
		before := sure(d)
		pending := d.Pending()
		want(t, "Format", Format(d, c), api.ErrArg)
		want(t, "Format of no disk", Format(nil, c), api.ErrArg)
		if d.Ops() != 0 || d.Pending() != pending || !slices.Equal(sure(d), before) {
			t.Errorf("%v: the disk was asked", c)
		}
	}
}

func TestFormatSizes(t *testing.T) { // P23.1
	for _, c := range configs() {
		n := 2 + c.Pages + c.Undo + c.Log
		want(t, "Format of no disk", Format(nil, c), api.ErrArg)
		for _, few := range []int{1, n / 2, n - 1} {
			d := usedDisk(few)
			want(t, "Format of too few blocks", Format(d, c), api.ErrArg)
			if d.Ops() != 0 {
				t.Errorf("%v: a disk of %d blocks was asked", c, few)
			}
		}
		d := disk.New(n - 1)
		d.Plan(nil, 1)
		d.Sync()
		want(t, "Format of too few blocks, without power", Format(d, c), api.ErrArg)
		for _, enough := range []int{n, n + 1, 2048} {
			want(t, "Format", Format(disk.New(enough), c), api.OK)
		}
		d = disk.New(n)
		d.Plan(nil, 1)
		d.Sync()
		want(t, "Format without power", Format(d, c), api.ErrDown)
	}
}

func TestFormatBlocks(t *testing.T) { // P23.1: what each block holds
	for _, c := range configs() {
		n := 2 + c.Pages + c.Undo + c.Log
		for _, size := range []int{n, n + 5} {
			d := usedDisk(size)
			var rest []api.Block
			for i := n; i < size; i++ {
				rest = append(rest, d.Seen(i))
			}
			want(t, "Format", Format(d, c), api.OK)
			if d.Ops() != n+3 || d.Pending() != 0 {
				t.Errorf("%v: %d operations, want %d; %d writes don't last", c, d.Ops(), n+3, d.Pending())
			}
			blocks := append(newStore(c), rest...)
			blocks[0] = firstMaster(t, c)
			for i, b := range blocks {
				if d.Sure(i) != b {
					t.Errorf("%v: the block %d isn't as it should be", c, i)
				}
			}
			if m, slot, e := master.Load(d); e != api.OK || slot != 0 || m != (api.Master{Seq: 1, LSN: 1, Config: c}) {
				t.Errorf("Load = %+v, %d, %d", m, slot, e)
			}
		}
	}
}

// formatFailed fails, if a disk isn't as a Format leaves it whose operation k isn't done.
func formatFailed(t *testing.T, d *disk.Disk, c api.Config, k int) {
	t.Helper()
	n := 2 + c.Pages + c.Undo + c.Log
	blocks := newStore(c)
	used := usedDisk(n)
	for i := range n {
		seen, lasts := blocks[i], blocks[i]
		if i >= k-1 {
			seen = used.Seen(i)
		}
		if k <= n+1 {
			lasts = used.Sure(i)
		}
		if i == 0 && k == n+3 {
			seen = firstMaster(t, c)
		}
		if d.Seen(i) != seen || d.Sure(i) != lasts {
			t.Errorf("a failure at %d: the block %d isn't as it should be", k, i)
		}
	}
}

func TestFormatFails(t *testing.T) { // P23.1: in this order, and once more behind an error
	c := api.Config{Pages: 2, Undo: 3, Log: 64, MaxTs: 9}
	n := 71
	for k := 1; k <= n+3; k++ {
		for _, f := range failures(k) {
			d := usedDisk(n)
			d.Plan(f.fails, f.fuse)
			want(t, "Format", Format(d, c), f.want)
			if d.Ops() != k {
				t.Errorf("a failure at %d: %d operations", k, d.Ops())
			}
			formatFailed(t, d, c, k)
			for _, keep := range [][]bool{nil, {false, true, true}, slices.Repeat([]bool{true}, 999)} {
				x := usedDisk(n)
				x.Plan(f.fails, f.fuse)
				Format(x, c)
				x.Crash(keep)
				want(t, "Format again", Format(x, c), api.OK)
				x.Crash(nil)
				r := opened(t, x, 4)
				r.wantMaster("behind two", api.Master{Seq: 3, Epoch: 1, LSN: 1, Config: c})
			}
			d.Plan(nil, 0)
			if f.fuse == 0 {
				want(t, "Format again, without a crash", Format(d, c), api.OK)
				if !slices.Equal(sure(d), sure(formatted(t, c))) {
					t.Errorf("a failure at %d, and Format again: the store isn't a new one", k)
				}
			}
		}
	}
}

func TestFormatUsedStore(t *testing.T) { // P23.1: nothing of an earlier store is left
	r := fresh(t, example(), 4)
	r.install(1, 1, wholeOf(7))
	r.commit(1)
	r.want("Mark", r.s.Mark(1), api.OK)
	r.install(2, 2, wholeOf(8))
	r.commit(2)
	d := copyOf(r.d)
	want(t, "Format", Format(d, example()), api.OK)
	if !slices.Equal(sure(d), sure(formatted(t, example()))) {
		t.Error("the store isn't a new one")
	}
	x := opened(t, d, 4)
	for no := range uint16(4) {
		x.wantVersions("a new store", no, version(0, api.Body{}))
	}
	less := api.Config{Pages: 1, Undo: 1, Log: 64}
	want(t, "Format of a smaller store", Format(r.d, less), api.OK)
	opened(t, r.d, 5).wantMaster("a smaller store", api.Master{Seq: 3, Epoch: 1, LSN: 1, Config: less})
}
