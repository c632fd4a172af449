package store

import (
	"slices"
	"testing"

	"varve/api"
	"varve/chain"
)

func TestCommitSteps(t *testing.T) { // P24.5
	all := []uint16{6, 1, 3, 0}
	for n := 1; n <= 4; n++ {
		r := fresh(t, api.Config{Pages: 8, Undo: 6, Log: 100, MaxTs: 99}, 8)
		txn := r.writer("x", all[:n]...)
		pages := slices.Sorted(slices.Values(all[:n]))
		r.ask(4, commitOf(txn))
		r.goes(4, 1) // it asks for the turn
		if !slices.Equal(r.s.turn.Line(), []int{4}) {
			t.Errorf("%v are in the line", r.s.turn.Line())
		}
		r.goes(4, 1) // there are a timestamp and room
		for i := range pages {
			r.wantHeld(pages[:i])
			r.goes(4, 1)
		}
		for i, no := range pages {
			r.wantHeld(pages)
			r.wantVersions(no, 0)
			r.goes(4, 1)
			r.wantVersions(no, 1, 0)
			r.wantRecords("installed", i+1)
		}
		if r.s.Oracle().Last() != 0 {
			t.Error("it is published ahead of its end")
		}
		r.ends(4, at(1))
		r.wantRest("behind it")
		r.wantLive("behind it")
		if r.s.Oracle().Last() != 1 {
			t.Error("it isn't published")
		}
		r.committed("y", all[:n]...)
		txn = r.writer("z", all[:n]...)
		r.takes(commitOf(txn), 3+2*n, at(3))
	}
}

// wantHeld fails, unless just these pages are held, once each.
func (r *rig) wantHeld(pages []uint16) {
	r.t.Helper()
	for _, id := range pagesOf(r.base().Config()) {
		want := 0
		if !id.Undo && slices.Contains(pages, id.No) {
			want = 1
		}
		if got := r.cache().Pins(id); got != want {
			r.t.Errorf("%v is held %d times, want %d", id, got, want)
		}
	}
}

func TestCommitOfNothing(t *testing.T) { // P24.5
	r := fresh(t, small(), 5)
	txn := r.begins()
	r.do(readOf(txn, 1), seen(0, api.Body{}))
	r.committed("x", 1)
	other := r.begins()
	writer := r.writer("y", 1)
	r.ask(1, commitOf(writer))
	r.goes(1, 3) // who has the turn is in nobody's way
	end := r.log().End()
	r.takes(commitOf(txn), 1, at(0))
	r.takes(commitOf(other), 1, at(1))
	r.wantLive("behind that", writer)
	if r.log().End() != end || r.s.Oracle().Last() != 1 {
		t.Error("something was committed")
	}
	r.do(commitOf(txn), fails(api.ErrTxn))
	r.rest(1)
	r.fill(20) // neither room nor a timestamp is needed
	txn = r.begins()
	r.takes(commitOf(txn), 1, at(2))
}

func TestCommitTs(t *testing.T) { // P24.5
	c := small()
	c.MaxTs = 2
	r := fresh(t, c, 5)
	old := r.writer("old", 0)
	r.committed("a", 0)
	r.committed("b", 1)
	txn := r.writer("c", 2)
	r.takes(commitOf(txn), 2, fails(api.ErrTs))
	r.fill(40)
	r.takes(commitOf(old), 2, fails(api.ErrTs)) // ahead of ErrFull, and of the conflict
	r.wantRest("behind that")
	r.wantLive("behind that")
	r.wantVersions(2, 0)
	r.takes(commitOf(r.begins()), 1, at(2))
}

func TestCommitLogFull(t *testing.T) { // P24.5, P5
	r := fresh(t, small(), 5)
	r.committed("a", 0)
	txn, old := r.writer("b", 0, 1), r.writer("o", 0)
	r.fill(48)
	r.takes(commitOf(txn), 7, at(2)) // just enough
	if r.log().Free() >= 48 {
		t.Fatal("nothing was laid in the log")
	}
	r.takes(commitOf(old), 2, fails(api.ErrFull)) // ahead of the conflict
	r.do(commitOf(old), fails(api.ErrTxn))
	r.wantRest("behind that")
	r.wantLive("behind that")
	r.wantVersions(0, 2, 1, 0)
	txn = r.writer("d", 3)
	r.do(of(api.CCheckpoint), api.Reply{})
	r.do(commitOf(txn), at(3))
	// one block too few
	txn = r.writer("e", 3)
	r.fill(47)
	r.takes(commitOf(txn), 2, fails(api.ErrFull))
	// it is looked at when the turn is had
	a, b := r.writer("e", 2), r.writer("f", 3)
	r.do(of(api.CCheckpoint), api.Reply{})
	r.fill(48)
	r.ask(1, commitOf(a))
	r.ask(2, commitOf(b))
	r.goes(1, 1)
	r.goes(2, 1)
	r.goes(1, 3)
	r.ends(1, at(4))
	r.ends(2, fails(api.ErrFull))
}

func TestCommitConflict(t *testing.T) { // P24.5, P2
	r := fresh(t, api.Config{Pages: 8, Undo: 6, Log: 100, MaxTs: 99}, 5)
	pages := []uint16{1, 3, 5, 7}
	var old []uint64
	for range pages {
		old = append(old, r.writer("old", pages...))
	}
	fine := r.writer("fine", 0, 2)
	for i, no := range slices.Backward(pages) {
		r.committed("new", no)
		// the first page that has a newer version is found in its step
		r.takes(commitOf(old[i]), 3+i, fails(api.ErrConflict))
		r.wantRest("behind a conflict")
		r.do(commitOf(old[i]), fails(api.ErrTxn))
	}
	r.wantRecords("behind conflicts", 4)
	r.do(commitOf(fine), at(5))
	r.wantLive("behind all that")
	// both have asked ahead of either's end
	a, b := r.writer("a", 1), r.writer("b", 1)
	r.ask(1, commitOf(a))
	r.ask(2, commitOf(b))
	r.goes(2, 1)
	r.goes(1, 1)
	r.goes(2, 3)
	r.ends(2, at(6))
	r.goes(1, 1)
	r.ends(1, fails(api.ErrConflict))
	txn := r.begins()
	r.do(readOf(txn, 1), seen(6, bodyOf("bew")))
}

func TestCommitNoRoom(t *testing.T) { // P24.5, P5: the last install that finds no room, and all ahead of it is taken back
	for n := range 4 {
		r := fresh(t, api.Config{Pages: 6, Undo: 2, Log: 100, MaxTs: 99}, 5)
		old := r.begins()
		for i := range 4 - n {
			r.committed(whole(byte('a'+i)), 5) // an undo page has room for two such records
		}
		ts := uint32(4 - n)
		txn := r.writer(whole('z'), 0, 1, 2, 4)
		r.takes(commitOf(txn), 7+n, fails(api.ErrFull))
		r.wantRest("no room")
		r.wantLive("no room", old)
		r.wantRecords("no room", 4-n)
		for _, no := range []uint16{0, 1, 2, 4} {
			r.wantVersions(no, 0)
		}
		if r.s.Oracle().Last() != ts || r.s.Halted() {
			t.Errorf("Last = %d, want %d", r.s.Oracle().Last(), ts)
		}
		txn = r.writer(whole('y'), 0, 1, 2, 4)
		r.do(of(api.CCheckpoint), api.Reply{})
		r.do(of(api.CVacuum), api.Reply{})
		r.do(commitOf(txn), fails(api.ErrFull)) // the old one sees them all still
		r.do(abortOf(old), api.Reply{})
		r.do(of(api.CCheckpoint), api.Reply{})
		r.do(of(api.CVacuum), api.Reply{})
		r.do(of(api.CCheckpoint), api.Reply{})
		txn = r.writer(whole('x'), 0, 1, 2, 4)
		r.do(commitOf(txn), at(ts+1))
	}
}

func TestCommitNoFrame(t *testing.T) { // P24.5, P4: with four frames for four pages there is none for an undo page
	r := fresh(t, small(), 4)
	txn := r.writer("x", 0, 1, 2, 3)
	r.takes(commitOf(txn), 7, fails(api.ErrNoFrame))
	r.wantRest("behind that")
	r.wantLive("behind that")
	r.committed("x", 0, 1, 2)
	r = fresh(t, small(), 5)
	r.committed("x", 0, 1, 2, 3)
	txn = r.begins()
	next := r.writer("y", 0, 1, 2, 3)
	r.ask(1, commitOf(next))
	r.goes(1, 6)
	for no := range uint16(4) { // others read meanwhile
		r.do(readOf(txn, no), seen(1, bodyOf("x")))
		r.goes(1, 1)
		r.do(readOf(txn, no), seen(1, bodyOf("x")))
	}
	r.ends(1, at(2))
}

func TestCommitLasts(t *testing.T) { // P3
	r := fresh(t, small(), 5)
	r.committed("abc", 1, 2)
	txn := r.writer("xyz", 1, 3)
	r.ask(0, commitOf(txn))
	r.goes(0, 6) // all but the end
	r.d.Crash(nil)
	r = opened(t, r.d, 5)
	if r.s.Oracle().Last() != 1 {
		t.Errorf("Last = %d", r.s.Oracle().Last())
	}
	r.do(begin(), begun(1, 1))
	r.do(readOf(1, 1), seen(1, bodyOf("abc")))
	r.do(readOf(1, 2), seen(1, bodyOf("abc")))
	r.do(readOf(1, 3), seen(0, api.Body{}))
}

// loaded is a store with few frames and much that is dirty, and a transaction that has written four pages.
func loaded(t *testing.T) (*rig, uint64) {
	t.Helper()
	r := fresh(t, api.Config{Pages: 8, Undo: 7, Log: 200, MaxTs: 99}, 5)
	r.committed(whole('a'), 0, 1, 2, 3)
	r.committed(whole('b'), 4, 5, 6) // seven records, so that an undo page is half full
	txn := r.writer(whole('c'), 0, 1, 2, 3)
	r.d.Plan(nil, 0)
	return r, txn
}

func TestCommitFails(t *testing.T) { // P24.5, P6: at each operation
	r, txn := loaded(t)
	r.do(commitOf(txn), at(3))
	ops := r.d.Ops()
	answers := make(map[api.Errno]int)
	for k := 1; k <= ops; k++ {
		for _, f := range failures(k) {
			r, txn := loaded(t)
			r.d.Plan(f.fails, f.fuse)
			got, n := r.call(0, commitOf(txn))
			answers[got.Err]++
			switch {
			case got.Err == f.want && n < 11 && f.want == api.ErrIO:
				r.wantTakenBack("an operation failed")
			case got.Err == api.ErrHalted && r.s.Halted(): // at its end, or it couldn't be taken back
				r.wantRest("halted")
			case got.Err == f.want && !r.s.Halted() && n < 11: // it was taken back without the disk
				r.wantRest("down")
				r.wantLive("down")
			default:
				t.Errorf("CCommit with a failure at %d = %s in %d steps", k, show(got), n)
			}
			r.wantOpened(f, got)
		}
	}
	for _, e := range []api.Errno{api.ErrIO, api.ErrDown, api.ErrHalted} {
		if answers[e] == 0 {
			t.Errorf("%d was never answered", e)
		}
	}
}

// wantTakenBack fails, unless the loaded store is as if its transaction had been given up.
func (r *rig) wantTakenBack(name string) {
	r.t.Helper()
	r.wantRest(name)
	r.wantLive(name)
	if r.s.Halted() || r.s.Oracle().Last() != 2 {
		r.t.Errorf("%s: the store is halted, or Last is %d", name, r.s.Oracle().Last())
	}
	for no := range uint16(4) {
		r.wantVersions(no, 1, 0)
	}
	again := r.writer(whole('d'), 0, 1, 2, 3)
	r.do(readOf(again, 5), seen(2, bodyOf(whole('b'))))
	r.do(commitOf(again), at(3))
	r.wantRest(name)
}

// wantOpened crashes, and opens the loaded store: all of the commit is there, or nothing.
func (r *rig) wantOpened(f failure, got api.Reply) {
	r.t.Helper()
	last := r.s.Oracle().Last()
	if r.s.Halted() && r.s.Ready(0) {
		r.t.Error("a halted store is ready")
	}
	r.d.Crash(nil)
	x := opened(r.t, r.d, 5)
	now := x.s.Oracle().Last()
	if now != last && (got.Err != api.ErrHalted || now != last+1) {
		r.t.Errorf("behind %+v, answered with %d: Last is %d, and was %d", f, got.Err, now, last)
	}
	for no := range uint16(4) {
		v, e := chain.Newest(x.cache(), no)
		if want := now - now/2 + now/3; e != api.OK || v.Ts != want { // 3 of 3, and 1 of 2
			r.t.Errorf("behind %+v: the page %d is of %d, %d, want %d", f, no, v.Ts, e, want)
		}
	}
	x.committed("on", 0, 1, 2, 3)
}

func TestCommitUnfinished(t *testing.T) { // P24.5: base.Commit fails
	for _, f := range append(failures(1), failures(2)...) {
		r := fresh(t, small(), 8)
		r.committed("a", 1)
		txn, other := r.writer("b", 1, 2), r.begins()
		r.ask(0, commitOf(txn))
		r.goes(0, 6)
		r.d.Plan(f.fails, f.fuse)
		r.ends(0, fails(api.ErrHalted))
		if !r.s.Halted() || r.s.Oracle().Last() != 1 {
			t.Error("it isn't halted, or was published")
		}
		r.wantRest("halted")
		r.wantLive("halted", txn, other)
		for kind := range 256 {
			r.refused(kind%12, of(uint8(kind)), api.ErrHalted)
		}
	}
}

func TestCommitNotTakenBack(t *testing.T) { // P24.5: nor can it be undone
	_, txn := loaded(t)
	found := 0
	for k := 1; k < 60; k++ {
		for _, more := range []int{1, 2, 3, 4, 6} {
			r, _ := loaded(t)
			plan := []int{k}
			for i := range more {
				plan = append(plan, k+1+i)
			}
			r.d.Plan(plan, 0)
			got, n := r.call(0, commitOf(txn))
			r.wantRest("behind failures")
			if got.Err != api.ErrHalted || n == 11 {
				continue
			}
			found++
			if !r.s.Halted() {
				t.Error("it isn't halted")
			}
			r.wantLive("halted, though it ended")
			r.d.Crash(nil)
			x := opened(t, r.d, 5)
			for no := range uint16(4) {
				x.wantNewest(no, 1)
			}
		}
	}
	if found == 0 {
		t.Error("it could always be taken back")
	}
}

func (r *rig) wantNewest(no uint16, ts uint32) {
	r.t.Helper()
	if v, e := chain.Newest(r.cache(), no); e != api.OK || v.Ts != ts {
		r.t.Errorf("the page %d is of %d, %d, want %d", no, v.Ts, e, ts)
	}
}

func TestHaltedOthers(t *testing.T) { // P24.3: each call that is under way ends with ErrHalted
	r := fresh(t, small(), 8)
	old := r.begins()
	for _, s := range []string{"a", "b", "c"} {
		r.committed(s, 1)
	}
	txn, waits, late, now := r.writer("d", 1), r.writer("e", 2), r.writer("f", 3), r.begins()
	r.ask(0, commitOf(txn))
	r.ask(1, readOf(old, 1))
	r.ask(2, commitOf(waits))
	r.ask(3, of(api.CVacuum))
	r.ask(4, of(api.CCheckpoint))
	r.ask(5, commitOf(late)) // it hasn't asked for the turn
	r.ask(6, begin())
	r.ask(7, writeOf(now, 3, 0, "x"))
	r.ask(8, of(api.CClose))
	for who := range 5 {
		r.goes(who, 1)
	}
	r.goes(0, 3)
	r.d.Plan([]int{1, 2}, 0)
	r.ends(0, fails(api.ErrHalted))
	r.d.Plan(nil, 0)
	r.stands(3) // behind who has the turn now
	for who := 8; who > 3; who-- {
		if !r.s.Ready(who) {
			t.Errorf("%d isn't ready", who)
		}
		r.ends(who, fails(api.ErrHalted))
	}
	r.stands(3)
	r.ends(2, fails(api.ErrHalted))
	r.ends(3, fails(api.ErrHalted))
	r.ends(1, fails(api.ErrHalted))
	r.wantRest("halted")
	r.wantLive("halted", old, txn, waits, late, now)
	if r.d.Ops() != 0 {
		t.Error("a halted store asks the disk")
	}
	for who := range 10 {
		r.refused(who, begin(), api.ErrHalted)
		if got, done := r.s.Step(who); done || got != (api.Reply{}) || r.s.Busy(who) || r.s.Ready(who) {
			t.Errorf("Step(%d) = %s, %v", who, show(got), done)
		}
	}
}
