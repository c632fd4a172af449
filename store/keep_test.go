package store

import (
	"slices"
	"testing"

	"varve/api"
	"varve/base"
	"varve/commit"
)

func TestVacuumSteps(t *testing.T) { // P24.5, P5
	r := fresh(t, small(), 8)
	for _, s := range []string{"a", "b", "c"} {
		r.committed(s, 1)
	}
	r.committed("d", 3)
	r.ask(6, of(api.CVacuum))
	r.goes(6, 1)
	if !slices.Equal(r.s.turn.Line(), []int{6}) {
		t.Errorf("%v are in the line", r.s.turn.Line())
	}
	r.goes(6, 1) // the page 0
	r.wantVersions(1, 3, 2, 1, 0)
	r.goes(6, 1) // the page 1
	r.wantVersions(1, 3)
	for i := range 3 {
		r.wantRecords("cut, and not freed yet", 4-i)
		r.goes(6, 1)
	}
	r.wantRecords("freed", 1)
	r.goes(6, 1) // the page 2
	r.wantVersions(3, 4, 0)
	r.goes(6, 1) // the page 3
	r.wantVersions(3, 4)
	r.wantRecords("cut, and not freed yet", 1)
	r.goes(6, 1)
	r.wantRecords("freed", 0)
	r.goes(6, 1) // what is in no chain
	r.ends(6, api.Reply{})
	r.wantRest("behind it")
	r.takes(of(api.CVacuum), 1+4+1+1, api.Reply{}) // with nothing to do
	for no, ts := range []uint32{0, 3, 0, 4} {
		r.wantVersions(uint16(no), ts)
	}
	txn := r.begins()
	r.do(readOf(txn, 1), seen(3, bodyOf("c")))
}

func TestVacuumOrphans(t *testing.T) { // P24.5, P5
	r := fresh(t, small(), 8)
	r.committed("a", 1)
	for i := range 3 { // records that are in no chain
		o := api.Old{Live: true, Page: 2, Ts: uint32(i), Delta: ""}
		if e := r.base().Change(api.Rec{Kind: api.RAdd, Page: undo(1), Slot: uint8(i), Old: o}); e != api.OK {
			t.Fatalf("Change = %d", e)
		}
	}
	reader := r.begins()
	r.ask(0, of(api.CVacuum))
	r.goes(0, 1+4+1) // one record is freed behind the page 1
	r.goes(0, 1)     // they are found,
	r.wantRecords("found", 3)
	for i := range 3 { // and freed
		r.goes(0, 1)
		r.wantRecords("freed", 2-i)
	}
	r.ends(0, api.Reply{})
	r.do(readOf(reader, 1), seen(1, bodyOf("a")))
}

func TestVacuumHorizon(t *testing.T) { // P24.5: as it is at each page
	r := fresh(t, small(), 8)
	r.committed("a", 0, 1, 2, 3)
	old := r.begins()
	r.committed("b", 0, 1, 2, 3)
	mid := r.begins()
	r.committed("c", 0, 1, 2, 3)
	r.ask(0, of(api.CVacuum))
	r.goes(0, 3) // the page 0, of which a version is freed
	r.wantVersions(0, 3, 2, 1)
	r.gone(old)
	r.goes(0, 3)
	r.wantVersions(1, 3, 2)
	r.gone(mid)
	r.goes(0, 4)
	r.wantVersions(2, 3)
	r.gone(r.beginsBy(5)) // a newer one is in nobody's way
	r.rest(0)
	for no, want := range [][]uint32{{3, 2, 1}, {3, 2}, {3}, {3}} {
		r.wantVersions(uint16(no), want...)
	}
	r.wantRecords("behind it", 3)
}

// gone ends a transaction by somebody else than 0.
func (r *rig) gone(txn uint64) {
	r.t.Helper()
	if got, _ := r.call(2, abortOf(txn)); got != (api.Reply{}) {
		r.t.Errorf("CAbort = %s", show(got))
	}
}

func (r *rig) beginsBy(who int) uint64 {
	r.t.Helper()
	got, _ := r.call(who, begin())
	return got.Txn
}

func TestVacuumLogFull(t *testing.T) { // P24.5, P5: ahead of each step
	set := func(t *testing.T) *rig {
		r := fresh(t, small(), 8)
		for _, s := range []string{"a", "b", "c"} {
			r.committed(s, 1)
		}
		return r
	}
	r := set(t)
	_, all := r.call(0, of(api.CVacuum))
	for n := 1; n < all; n++ {
		r := set(t)
		r.ask(0, of(api.CVacuum))
		r.goes(0, n)
		r.fill(47)
		end := r.log().End()
		r.ends(0, fails(api.ErrFull))
		if r.log().End() != end {
			t.Error("something was changed all the same")
		}
		r.wantRest("refused")
		r.do(of(api.CCheckpoint), api.Reply{})
		r.do(of(api.CVacuum), api.Reply{})
		r.wantVersions(1, 3)
		r.wantRecords("again", 0)
	}
	r = set(t)
	r.fill(48)
	r.ask(0, of(api.CVacuum))
	r.goes(0, 3) // just enough, till something is laid
	r.ends(0, fails(api.ErrFull))
	r.wantVersions(1, 3)
	r.wantRecords("cut, and not freed", 3)
	r.do(of(api.CCheckpoint), api.Reply{})
	r.do(of(api.CVacuum), api.Reply{})
	r.wantRecords("again", 0)
}

func TestVacuumFails(t *testing.T) { // P24.5: an error is the answer, and the turn is given back
	set := func(t *testing.T) *rig {
		r := fresh(t, api.Config{Pages: 6, Undo: 6, Log: 200, MaxTs: 99}, 4)
		for i := range 2 {
			r.committed(whole(byte('a'+i)), 0, 1)
			r.committed(whole(byte('k'+i)), 3, 4)
		}
		r.d.Plan(nil, 0)
		return r
	}
	r := set(t)
	r.do(of(api.CVacuum), api.Reply{})
	ops := r.d.Ops()
	if ops < 10 {
		t.Fatalf("only %d operations", ops)
	}
	for k := 1; k <= ops; k++ {
		for _, f := range failures(k) {
			r := set(t)
			r.d.Plan(f.fails, f.fuse)
			r.do(of(api.CVacuum), fails(f.want))
			r.wantRest("an operation failed")
			if r.s.Halted() {
				t.Error("it is halted")
			}
			if f.want == api.ErrDown {
				r.d.Crash(nil)
				r = opened(t, r.d, 5)
			}
			txn := r.begins()
			r.do(readOf(txn, 1), seen(3, bodyOf(whole('b'))))
			r.do(readOf(txn, 4), seen(4, bodyOf(whole('l'))))
			r.do(abortOf(txn), api.Reply{})
			r.do(of(api.CVacuum), api.Reply{})
			r.wantRecords("again", 0)
		}
	}
}

func TestCheckpointSteps(t *testing.T) { // P24.5
	r := fresh(t, small(), 8)
	r.takes(of(api.CCheckpoint), 1, api.Reply{}) // of no dirty pages
	r.committed("a", 1, 3)
	r.wantDirty(data(1), data(3), undo(0))
	m := r.s.State().Master()
	r.ask(0, of(api.CCheckpoint))
	r.goes(0, 1)
	r.wantDirty(data(3), undo(0))
	r.goes(0, 1)
	r.wantDirty(undo(0))
	r.goes(0, 1)
	r.wantDirty()
	if r.s.State().Master() != m {
		t.Error("it was marked ahead of the last step")
	}
	r.ends(0, api.Reply{})
	now := r.s.State().Master()
	if now.Seq != m.Seq+1 || now.Last != 1 || now.LSN != r.log().End() || r.log().Free() != 100 {
		t.Errorf("the master is %+v, and was %+v", now, m)
	}
	r.wantRest("behind it")
}

func (r *rig) wantDirty(want ...api.PageID) {
	r.t.Helper()
	var got []api.PageID
	for _, x := range r.cache().Dirty() {
		got = append(got, x.Page)
	}
	if !slices.Equal(got, want) {
		r.t.Errorf("%v are dirty, want %v", got, want)
	}
}

func TestCheckpointMeanwhile(t *testing.T) { // P24.5: those that are dirty at the first step, if they are still
	r := fresh(t, api.Config{Pages: 6, Undo: 6, Log: 100, MaxTs: 99}, 8)
	r.committed("a", 0, 2, 4)
	r.ask(0, of(api.CCheckpoint))
	r.goes(0, 1) // the page 0
	r.cache().Write(data(2))
	who := 3
	txn := r.beginsBy(who)
	for _, c := range []api.Call{writeOf(txn, 1, 0, "b"), writeOf(txn, 0, 0, "b"), commitOf(txn)} {
		if got, _ := r.call(who, c); got.Err != api.OK {
			t.Fatalf("%+v = %s", c, show(got))
		}
	}
	r.wantDirty(data(0), data(1), data(4), undo(0))
	n := r.d.Ops()
	r.goes(0, 1) // the page 2: it isn't dirty any more
	if r.d.Ops() != n {
		t.Error("the disk was asked for a page that isn't dirty")
	}
	r.goes(0, 1)
	r.wantDirty(data(0), data(1), undo(0))
	r.goes(0, 1)
	r.wantDirty(data(0), data(1)) // they weren't at the first step
	r.ends(0, api.Reply{})
	r.wantDirty(data(0), data(1))
	m := r.s.State().Master()
	if m.Last != 2 || m.LSN >= r.log().End() || m.LSN != slices.MinFunc(r.cache().Dirty(), func(a, b api.Dirt) int { return int(a.LSN) - int(b.LSN) }).LSN {
		t.Errorf("the master is %+v", m)
	}
	r.d.Crash(nil)
	r = opened(t, r.d, 5)
	txn = r.begins()
	r.do(readOf(txn, 0), seen(2, bodyOf("b")))
	r.do(readOf(txn, 4), seen(1, bodyOf("a")))
}

func TestCheckpointOfAPageThatLeft(t *testing.T) { // P24.5: it isn't resident any more
	r := fresh(t, small(), 4)
	r.committed("a", 1, 3)
	r.ask(0, of(api.CCheckpoint))
	r.goes(0, 1)
	r.away(3)
	r.goes(0, 2)
	r.ends(0, api.Reply{})
	txn := r.begins()
	r.do(readOf(txn, 3), seen(1, bodyOf("a")))
}

func TestCheckpointOfACommitUnderWay(t *testing.T) { // P24.5, P3: what is installed is no commit
	r := fresh(t, small(), 8)
	r.committed("a", 1)
	txn := r.writer("b", 1, 2)
	r.ask(1, commitOf(txn))
	r.goes(1, 6)
	r.takes(of(api.CCheckpoint), 4, api.Reply{})
	if m := r.s.State().Master(); m.Last != 1 {
		t.Errorf("Last = %d", m.Last)
	}
	r.d.Crash(nil)
	x := opened(t, copyOf(r.d), 5)
	x.wantVersions(1, 1, 0)
	x.wantVersions(2, 0)
}

func TestCheckpointFails(t *testing.T) { // P24.5
	for _, kind := range []uint8{api.CCheckpoint, api.CClose} {
		r := loadedForClose(t)
		m := r.s.State().Master()
		r.do(of(kind), api.Reply{})
		ops := r.d.Ops()
		for k := 1; k <= ops; k++ {
			for _, f := range failures(k) {
				r := loadedForClose(t)
				r.d.Plan(f.fails, f.fuse)
				r.do(of(kind), fails(f.want))
				r.wantRest("an operation failed")
				if r.s.Halted() || r.s.State().Master() != m {
					t.Errorf("a failure at %d: it is halted, or marked", k)
				}
				if f.want == api.ErrDown {
					r.d.Crash(nil)
					r = opened(t, r.d, 5)
				}
				r.do(of(kind), api.Reply{})
				if r.s.Halted() != (kind == api.CClose) {
					t.Error("it is halted, or isn't")
				}
			}
		}
	}
}

func loadedForClose(t *testing.T) *rig {
	t.Helper()
	r := fresh(t, small(), 8)
	r.committed("a", 0, 1)
	r.committed("b", 1, 3)
	r.d.Plan(nil, 0)
	return r
}

func TestClose(t *testing.T) { // P24.5
	r := loadedForClose(t)
	live := r.begins()
	dirty := len(r.cache().Dirty())
	r.ask(7, of(api.CClose))
	r.goes(7, dirty)
	if r.s.Halted() {
		t.Error("it is halted ahead of the mark")
	}
	r.ends(7, api.Reply{})
	if !r.s.Halted() || r.s.State().Master().Last != 2 || r.d.Pending() != 0 {
		t.Error("it isn't closed")
	}
	r.wantRest("closed")
	r.wantLive("closed", live)
	n := r.d.Ops()
	for kind := range 256 {
		r.refused(kind%14-2, api.Call{Kind: uint8(kind), Txn: live}, api.ErrHalted)
	}
	for who := -1; who < 11; who++ {
		if got, done := r.s.Step(who); done || got != (api.Reply{}) || r.s.Busy(who) || r.s.Ready(who) {
			t.Errorf("Step(%d) of a closed store = %s, %v", who, show(got), done)
		}
	}
	if r.d.Ops() != n {
		t.Error("a closed store asks the disk")
	}
	if r.s.State() == nil || r.s.Oracle() == nil {
		t.Error("there are no parts any more")
	}
	for _, crash := range []bool{false, true} {
		if crash {
			r.d.Crash(nil)
		}
		x := opened(t, r.d, 5)
		txn := x.begins()
		for no, want := range []api.Reply{seen(1, bodyOf("a")), seen(2, bodyOf("b")), seen(0, api.Body{}), seen(2, bodyOf("b"))} {
			x.do(readOf(txn, uint16(no)), want)
		}
	}
}

func TestCloseBusy(t *testing.T) { // P24.5
	for _, c := range []api.Call{begin(), readOf(1, 0), commitOf(1), of(api.CVacuum), of(api.CCheckpoint), of(api.CClose)} {
		r := fresh(t, small(), 8)
		r.begins()
		r.committed("a", 0, 1)
		m := r.s.State().Master()
		r.ask(9, c)
		r.ask(0, of(api.CClose))
		r.goes(0, 3)
		r.wantDirty() // the pages were written back
		r.ends(0, fails(api.ErrBusy))
		if r.s.Halted() || r.s.State().Master() != m {
			t.Error("it is halted, or marked")
		}
		r.rest(9)
		if c.Kind == api.CClose {
			continue
		}
		r.do(of(api.CClose), api.Reply{})
		if !r.s.Halted() {
			t.Error("it isn't halted")
		}
	}
	// it counts who is there at the mark, not at the beginning
	r := fresh(t, small(), 8)
	r.committed("a", 0)
	r.ask(0, of(api.CClose))
	r.ask(1, begin())
	r.goes(0, 2)
	r.ends(1, begun(2, 1))
	r.ends(0, api.Reply{})
	// and who waits for the turn is under way, too
	r = fresh(t, small(), 8)
	a, b := r.writer("a", 0), r.writer("b", 1)
	r.ask(1, commitOf(a))
	r.ask(2, commitOf(b))
	r.goes(1, 1)
	r.goes(2, 1)
	r.do(of(api.CClose), fails(api.ErrBusy))
}

func TestVacuumLeavesOneVersion(t *testing.T) { // P5: when no transaction is live
	r := fresh(t, api.Config{Pages: 8, Undo: 10, Log: 300, MaxTs: 99}, 5)
	for i := range 9 {
		r.committed(string(rune('a'+i)), uint16(i%8), uint16((i+3)%8))
	}
	b := r.base()
	// an undo record of nobody
	if e := commit.Install(b, 0, 50, bodyOf("q")); e != api.OK {
		t.Fatal(e)
	}
	if e := popOnly(b, 0); e != api.OK {
		t.Fatal(e)
	}
	records := b.Room().Live()
	got, n := r.call(0, of(api.CVacuum))
	if got != (api.Reply{}) || n != 1+8+records+1+1 || n > 4+8+records {
		t.Errorf("CVacuum = %s in %d steps", show(got), n)
	}
	r.wantRecords("behind it", 0)
	for no := range uint16(8) {
		if list := r.times(no); len(list) != 1 {
			t.Errorf("the page %d has the versions %v", no, list)
		}
	}
}

// popOnly takes a page's version back, and leaves its record.
func popOnly(b *base.Base, no uint16) api.Errno {
	refs := b.Room().Refs()
	if e := commit.Pop(b, no); e != api.OK {
		return e
	}
	for _, at := range refs {
		if !slices.Contains(b.Room().Refs(), at) {
			o := api.Old{Live: true, Page: no, Ts: 3}
			return b.Change(api.Rec{Kind: api.RAdd, Page: undo(at.Page - 1), Slot: at.Slot, Old: o})
		}
	}
	return api.ErrArg
}
