package restart

import (
	"math"
	"slices"
	"testing"

	"varve/api"
	"varve/master"
)

func TestNil(t *testing.T) { // P23.3, P23.4
	var s *State
	for _, last := range []uint32{0, 1, math.MaxUint32} {
		want(t, "Mark of no state", s.Mark(last), api.ErrArg)
	}
	if s.Base() != nil || s.Master() != (api.Master{}) {
		t.Errorf("of no state: %v, %v", s.Base(), s.Master())
	}
}

func TestBaseAndMaster(t *testing.T) { // P23.4
	r := fresh(t, example(), 5)
	b := r.s.Base()
	if b == nil || b != r.s.Base() || b.Disk() != r.d || b.Config() != example() {
		t.Errorf("Base is %v", b)
	}
	r.wantMaster("a new store", api.Master{Seq: 3, Epoch: 1, LSN: 1, Config: example()})
	m := r.s.Master()
	m.Seq = 77
	if r.s.Master().Seq != 3 {
		t.Error("what was answered is kept")
	}
	if r.d.Ops() != 0 {
		t.Errorf("%d operations", r.d.Ops())
	}
}

func TestMarkClean(t *testing.T) { // P23.3: no page is dirty
	r := fresh(t, small(), 4)
	slot := 0 // where Open's last master stands
	for i := range 5 {
		r.d.Plan(nil, 0)
		r.want("Mark", r.s.Mark(uint32(i)), api.OK)
		m := api.Master{Seq: uint64(4 + i), Epoch: 1, LSN: 1, Last: uint32(i), Config: small()}
		r.wantMaster("Mark", m)
		slot = 1 - slot
		if masterIn(r.d, slot) != m || r.d.Ops() != 2 || r.d.Pending() != 0 {
			t.Errorf("the block %d holds %+v, want %+v, by %d operations", slot, masterIn(r.d, slot), m, r.d.Ops())
		}
		if got, at, e := master.Load(r.d); got != m || at != slot || e != api.OK {
			t.Errorf("Load = %+v, %d, %d", got, at, e)
		}
	}
}

// blocks lays texts till the log has so many blocks more, and flushes it; the answer is the log's end.
func (r *rig) blocks(n int) uint64 {
	r.t.Helper()
	for range n {
		if _, e := r.s.Base().Log().Append("x"); e != api.OK {
			r.t.Fatalf("Append = %d", e)
		}
		r.flush()
	}
	return r.s.Base().Log().End()
}

func TestMarkNothingDirty(t *testing.T) { // P23.3: all of the log is free
	r := fresh(t, small(), 4)
	r.blocks(3)
	if _, e := r.s.Base().Log().Append("y"); e != api.OK { // which isn't flushed
		t.Fatal(e)
	}
	end := r.s.Base().Log().End()
	if r.s.Base().Log().Free() != 60 {
		t.Fatalf("%d blocks are free", r.s.Base().Log().Free())
	}
	r.want("Mark", r.s.Mark(9), api.OK)
	r.wantMaster("Mark", api.Master{Seq: 4, Epoch: 1, Tail: 4, LSN: end, Last: 9, Config: small()})
	r.wantSettled("Mark")
}

func TestMarkDirty(t *testing.T) { // P23.3: the least of the first changes of all dirty pages
	r := fresh(t, small(), 4)
	log, cache := r.s.Base().Log(), r.s.Base().Cache()
	r.blocks(2)
	first := log.End()
	r.want("Change", r.s.Base().Change(setTo(3, 1, api.Ref{})), api.OK) // in the block 2
	r.flush()
	r.blocks(2)
	second := log.End()
	r.want("Change", r.s.Base().Change(setTo(1, 1, api.Ref{})), api.OK) // in the block 5
	r.flush()
	r.want("Change", r.s.Base().Change(api.Rec{Kind: api.RData, Page: data(3), Ts: 2}), api.OK) // in the block 6
	if d := cache.Dirty(); len(d) != 2 || d[0].LSN != second || d[1].LSN != first {
		t.Fatalf("dirty are %v", d)
	}
	r.want("Mark", r.s.Mark(7), api.OK)
	r.wantMaster("two dirty pages", api.Master{Seq: 4, Epoch: 1, Tail: 2, LSN: first, Last: 7, Config: small()})
	if log.Free() != 59 || log.Tail() != 2 || log.Durable() != log.End() {
		t.Errorf("two dirty pages: %d blocks are free, the first one is %d", log.Free(), log.Tail())
	}
	if len(cache.Dirty()) != 2 {
		t.Error("a page was written")
	}
	r.write(data(3))
	r.want("Mark", r.s.Mark(8), api.OK)
	r.wantMaster("one dirty page", api.Master{Seq: 5, Epoch: 1, Tail: 5, LSN: second, Last: 8, Config: small()})
	if log.Free() != 62 || log.Tail() != 5 {
		t.Errorf("one dirty page: %d blocks are free, the first one is %d", log.Free(), log.Tail())
	}
	r.write(data(1))
	r.want("Mark", r.s.Mark(6), api.OK) // Last is as it is handed in
	r.wantMaster("no dirty page", api.Master{Seq: 6, Epoch: 1, Tail: 7, LSN: log.End(), Last: 6, Config: small()})
	r.wantSettled("no dirty page")
}

// Within a block the LSN stands where the first change does, and the block is kept.
func TestMarkWithinBlock(t *testing.T) { // P23.3
	r := fresh(t, small(), 4)
	r.want("Change", r.s.Base().Change(setTo(2, 1, api.Ref{})), api.OK)
	second := r.s.Base().Log().End()
	r.want("Change", r.s.Base().Change(setTo(1, 1, api.Ref{})), api.OK)
	r.flush()
	r.write(data(2))
	r.want("Mark", r.s.Mark(1), api.OK)
	r.wantMaster("within a block", api.Master{Seq: 4, Epoch: 1, Tail: 0, LSN: second, Last: 1, Config: small()})
	if second == 1 || r.s.Base().Log().Free() != 63 {
		t.Errorf("%d blocks are free", r.s.Base().Log().Free())
	}
	x := r.again(nil, 4)
	x.wantVersions("opened", 1, version(1, bodyOf(1)))
	x.wantVersions("opened", 2, version(1, bodyOf(1)))
}

// What was marked is what the next Open begins with.
func TestMarkOpen(t *testing.T) { // P23.3, P23.2
	for _, dirty := range []bool{false, true} {
		r := fresh(t, small(), 4)
		r.install(1, 1, bodyOf(1))
		r.commit(1)
		r.install(2, 2, bodyOf(2))
		if !dirty {
			for _, x := range r.s.Base().Cache().Dirty() {
				r.write(x.Page)
			}
		}
		r.want("Mark", r.s.Mark(1), api.OK)
		x := r.again(nil, 4)
		x.wantVersions("marked", 1, version(1, bodyOf(1)), version(0, api.Body{}))
		x.wantVersions("marked", 2, version(0, api.Body{}))
		if m := x.s.Master(); m.Last != 1 || m.Epoch != 2 || m.Seq != 6 {
			t.Errorf("marked: %+v", m)
		}
		x.wantSettled("marked")
	}
}

// marked is a store with something to flush, and pages that are dirty: Mark takes four operations.
func marked(t *testing.T) *rig {
	t.Helper()
	r := fresh(t, small(), 4)
	r.blocks(2)
	r.install(1, 1, bodyOf(1))
	r.commit(1)
	r.install(2, 2, bodyOf(2))
	r.d.Plan(nil, 0)
	return r
}

func TestMarkFails(t *testing.T) { // P23.3: an operation that fails at each place
	r := marked(t)
	r.want("Mark", r.s.Mark(1), api.OK)
	if r.d.Ops() != 4 {
		t.Fatalf("Mark takes %d operations", r.d.Ops())
	}
	for k := 1; k <= 4; k++ {
		for _, f := range failures(k) {
			r := marked(t)
			before, free, tail := r.s.Master(), r.s.Base().Log().Free(), r.s.Base().Log().Tail()
			dirty := r.s.Base().Cache().Dirty()
			r.d.Plan(f.fails, f.fuse)
			r.want("Mark", r.s.Mark(1), f.want)
			if r.d.Ops() != k {
				t.Errorf("a failure at %d: %d operations", k, r.d.Ops())
			}
			r.wantMaster("a failure", before)
			if l := r.s.Base().Log(); l.Free() != free || l.Tail() != tail || !slices.Equal(r.s.Base().Cache().Dirty(), dirty) {
				t.Errorf("a failure at %d: %d blocks are free, the first one is %d", k, l.Free(), l.Tail())
			}
			if masterIn(r.d, 0) != before {
				t.Errorf("a failure at %d: the block 0 holds %+v", k, masterIn(r.d, 0))
			}
			if f.fuse == 0 {
				r.wantMarkedBehind(k)
			}
		}
	}
}

// wantMarkedBehind marks again, behind a Mark whose operation k failed: in the same block, with a Seq that wasn't tried.
func (r *rig) wantMarkedBehind(k int) {
	r.t.Helper()
	seq := uint64(4)
	if k >= 3 { // a master was tried
		seq = 5
	}
	r.d.Plan(nil, 0)
	r.want("Mark again", r.s.Mark(1), api.OK)
	m := r.s.Master()
	if m.Seq != seq || m.Tail != 2 || m.Last != 1 || masterIn(r.d, 1) != m {
		r.t.Errorf("behind a failure at %d %+v was stored, the block 1 holds %+v", k, m, masterIn(r.d, 1))
	}
	if r.s.Base().Log().Tail() != 2 {
		r.t.Errorf("behind a failure at %d the log's first block is %d", k, r.s.Base().Log().Tail())
	}
	x := r.again(nil, 4)
	x.wantVersions("opened", 1, version(1, bodyOf(1)), version(0, api.Body{}))
	x.wantVersions("opened", 2, version(0, api.Body{}))
}

// Many that fail, and no Seq comes twice; the block is always the other one than that of the last OK.
func TestMarkTried(t *testing.T) { // P23.3
	r := fresh(t, small(), 4)
	seen := map[uint64]int{r.s.Master().Seq: 1, r.s.Master().Seq - 1: 1}
	slot, most := 0, r.s.Master().Seq
	for i := range 40 {
		before := masterIn(r.d, slot)
		fails := []int{1 + i%3}
		if i%3 == 2 {
			fails = nil
		}
		r.d.Plan(fails, 0)
		e := r.s.Mark(uint32(i))
		if (e == api.OK) != (fails == nil) {
			t.Fatalf("Mark = %d", e)
		}
		if e == api.OK {
			slot = 1 - slot
			m := masterIn(r.d, slot)
			if m.Seq <= most || m != r.s.Master() || m.Last != uint32(i) {
				t.Fatalf("%+v was stored behind the Seq %d", m, most)
			}
			most = m.Seq
		} else if masterIn(r.d, slot) != before {
			t.Fatalf("a failure: the block %d was written", slot)
		}
		if m, ok := master.Unpack(r.d.Seen(1 - slot)); ok && fails != nil && fails[0] == 2 { // it was written, not synced
			if seen[m.Seq]++; seen[m.Seq] > 1 || m.Seq <= most {
				t.Fatalf("the Seq %d was tried twice", m.Seq)
			}
			most = m.Seq
		}
	}
}

// A failed Mark's master may last all the same: then a further one is newer.
func TestMarkFailedLasts(t *testing.T) { // P23.3, P23.5
	r := marked(t)
	r.d.Plan([]int{4}, 0)
	r.want("Mark", r.s.Mark(1), api.ErrIO)
	r.want("Commit", r.s.Base().Commit(2), api.OK) // it syncs all
	if masterIn(r.d, 1).Seq != 4 {
		t.Fatalf("the block 1 holds %+v", masterIn(r.d, 1))
	}
	x := opened(t, copyOf(r.d), 4)
	x.wantVersions("the failed one", 2, version(2, bodyOf(2)), version(0, api.Body{}))
	r.d.Plan(nil, 2) // while the next one is stored
	r.want("Mark", r.s.Mark(2), api.ErrDown)
	for _, keep := range [][]bool{nil, {true}, {false, true, true, true}, {true, true, true, true}} {
		y := copyOf(r.d)
		for i := range 4 {
			if i < len(keep) && keep[i] { // as a crash would keep the sectors
				b, z := y.Sure(1), r.d.Seen(1)
				copy(b[64*i:64*i+64], z[64*i:64*i+64])
				y.Write(1, b)
			}
		}
		y.Sync()
		opened(t, y, 4).wantVersions("a torn one", 2, version(2, bodyOf(2)), version(0, api.Body{}))
	}
}

func TestMarkLast(t *testing.T) { // P23.3: a Last above MaxTs
	r := marked(t)
	before, free := r.s.Master(), r.s.Base().Log().Free()
	for _, last := range []uint32{100, math.MaxUint32} {
		r.want("Mark", r.s.Mark(last), api.ErrArg)
		r.wantMaster("a Last above MaxTs", before)
	}
	if r.d.Ops() != 2 || r.d.Pending() != 0 { // the log was flushed
		t.Errorf("%d operations", r.d.Ops())
	}
	if l := r.s.Base().Log(); l.Durable() != l.End() || l.Free() != free {
		t.Errorf("%d blocks are free", l.Free())
	}
	r.want("Mark", r.s.Mark(99), api.OK)
	if m := r.s.Master(); m.Last != 99 || m.Seq <= before.Seq || masterIn(r.d, 1) != m {
		t.Errorf("behind it: %+v", m)
	}
}
