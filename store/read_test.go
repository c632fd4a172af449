package store

import (
	"testing"

	"varve/api"
)

func TestReadSteps(t *testing.T) { // P24.5, P1
	r := fresh(t, small(), 5)
	var old []uint64
	for i := range 5 { // each of them starts at i
		old = append(old, r.begins())
		r.committed(string(rune('a'+i)), 2)
	}
	for i, txn := range old {
		want := seen(0, api.Body{})
		if i > 0 {
			want = seen(uint32(i), bodyOf(string(rune('a'+i-1))))
		}
		r.takes(readOf(txn, 2), 6-i, want) // the newest version, of 5, takes a step, and each one ahead of it another one
		r.takes(readOf(txn, 2), 6-i, want)
		r.takes(readOf(txn, 1), 1, seen(0, api.Body{}))
	}
	now := r.begins()
	r.takes(readOf(now, 2), 1, seen(5, bodyOf("e")))
	r.wantRest("behind that")
}

func TestReadsWhatWasWritten(t *testing.T) { // P24.5, P1
	r := fresh(t, small(), 5)
	r.committed("abc", 2)
	txn, other := r.begins(), r.begins()
	r.committed("xyz", 2)
	r.takes(writeOf(txn, 2, 1, "B"), 2, api.Reply{}) // over the version of its start
	n := r.d.Ops()
	r.takes(readOf(txn, 2), 1, seen(1, bodyOf("aBc"))) // Ts is its start
	r.takes(writeOf(txn, 2, 3, "d"), 1, api.Reply{})
	r.takes(writeOf(txn, 2, 64, ""), 1, api.Reply{})
	r.takes(readOf(txn, 2), 1, seen(1, bodyOf("aBcd")))
	if r.d.Ops() != n {
		t.Error("the disk was asked for what was written")
	}
	r.takes(readOf(other, 2), 2, seen(1, bodyOf("abc")))
	r.do(begin(), begun(5, 2))
	r.takes(readOf(5, 2), 1, seen(2, bodyOf("xyz")))
	r.do(abortOf(txn), api.Reply{})
	r.takes(readOf(other, 2), 2, seen(1, bodyOf("abc")))
}

func TestReadsNothingUncommitted(t *testing.T) { // P24.5, P2
	r := fresh(t, small(), 5)
	r.committed("a", 1)
	old := r.begins()
	r.committed("b", 1)
	now := r.begins()
	txn := r.writer("c", 1)
	r.ask(1, commitOf(txn))
	r.goes(1, 4) // it is installed
	r.wantVersions(1, 3, 2, 1, 0)
	r.takes(readOf(now, 1), 1, seen(2, bodyOf("b"))) // both versions in one step
	r.takes(readOf(old, 1), 2, seen(1, bodyOf("a")))
	r.ask(2, begin())
	r.ends(2, begun(6, 2))
	r.takes(readOf(6, 1), 1, seen(2, bodyOf("b")))
	r.takes(writeOf(6, 1, 1, "!"), 1, api.Reply{})
	r.takes(readOf(6, 1), 1, seen(2, bodyOf("b!")))
	r.ask(3, readOf(old, 1))
	r.goes(3, 1)
	r.ends(1, at(3))
	r.ends(3, seen(1, bodyOf("a"))) // what was committed meanwhile changes nothing
	r.takes(readOf(now, 1), 2, seen(2, bodyOf("b")))
	r.do(commitOf(6), fails(api.ErrConflict))
}

func TestReadOverATakenBackOne(t *testing.T) { // P24.5: it has left that version in its first step
	r := fresh(t, api.Config{Pages: 4, Undo: 2, Log: 100, MaxTs: 99}, 5)
	old := r.begins()
	r.committed(whole('a'), 0)
	r.committed(whole('b'), 0)
	txn := r.writer(whole('c'), 0, 1, 2, 3)
	r.ask(1, commitOf(txn))
	r.goes(1, 7) // two are installed
	r.ask(2, readOf(old, 0))
	r.goes(2, 1)
	if got, n := r.rest(1); got != fails(api.ErrFull) {
		t.Fatalf("CCommit = %+v in %d steps", got, n)
	}
	r.goes(2, 1)
	r.ends(2, seen(0, api.Body{}))
}

func TestReadWhileVacuumed(t *testing.T) { // P24.5, P5
	r := fresh(t, small(), 5)
	r.committed("a", 1)
	r.committed("b", 1)
	old := r.begins()
	for _, s := range []string{"c", "d", "e"} {
		r.committed(s, 1)
	}
	r.ask(1, readOf(old, 1))
	r.goes(1, 2)
	r.do(of(api.CVacuum), api.Reply{})
	r.wantVersions(1, 5, 4, 3, 2)
	r.goes(1, 1)
	r.ends(1, seen(2, bodyOf("b")))
}

func TestReadFails(t *testing.T) { // P24.5: an error is the answer, and the transaction stays live
	for _, kind := range []uint8{api.CRead, api.CWrite} {
		for step := range 3 {
			for _, f := range failures(1) {
				r := fresh(t, small(), 4)
				old := r.begins()
				r.committed(whole('a'), 1)
				r.committed(whole('b'), 1)
				r.committed(whole('c'), 1)
				r.begins()
				r.ask(1, api.Call{Kind: kind, Txn: old, Page: 1, S: "x"})
				for range step {
					r.away(1)
					r.goes(1, 1)
				}
				r.away(1)
				r.d.Plan(f.fails, f.fuse)
				r.ends(1, fails(f.want))
				r.wantRest("behind the error")
				r.wantLive("behind the error", old, 5)
				if f.want == api.ErrDown {
					continue
				}
				r.takes(readOf(old, 1), 4, seen(0, api.Body{})) // nothing was written
				r.do(commitOf(old), at(0))
			}
		}
	}
}

// away makes a page and all undo pages leave their frames.
func (r *rig) away(no uint16) {
	r.t.Helper()
	for range 3 {
		for i := range uint16(4) {
			if i != no {
				r.cache().Fetch(data(i))
				r.cache().Unpin(data(i))
			}
		}
		r.cache().Fetch(undo(5))
		r.cache().Unpin(undo(5))
	}
	if r.cache().Resident(data(no)) || r.cache().Resident(undo(0)) {
		r.t.Fatal("they are in their frames still")
	}
}

func TestManyWrites(t *testing.T) { // P24.5
	r := fresh(t, api.Config{Pages: 8, Undo: 6, Log: 100, MaxTs: 99}, 5)
	txn := r.begins()
	for _, no := range []uint16{5, 0, 7, 2} {
		r.do(writeOf(txn, no, 0, ""), api.Reply{}) // it counts as written
	}
	n := r.d.Ops()
	r.takes(writeOf(txn, 3, 0, "x"), 1, fails(api.ErrMany))
	r.takes(writeOf(txn, 3, 0, ""), 1, fails(api.ErrMany))
	if r.cache().Resident(data(3)) || r.d.Ops() != n {
		t.Error("the page was fetched for nothing")
	}
	r.takes(writeOf(txn, 7, 0, "x"), 1, api.Reply{})
	r.do(readOf(txn, 3), seen(0, api.Body{}))
	r.do(commitOf(txn), at(1))
	for no := range uint16(8) {
		switch no {
		case 0, 2, 5, 7:
			r.wantVersions(no, 1, 0)
		default:
			r.wantVersions(no, 0)
		}
	}
}

func TestWriteSteps(t *testing.T) { // P24.5: as many as a read
	r := fresh(t, small(), 5)
	old := r.begins()
	for i := range 4 {
		r.committed(string(rune('a'+i)), 2)
	}
	now := r.begins()
	r.takes(writeOf(now, 2, 1, "y"), 1, api.Reply{})
	r.takes(writeOf(old, 2, 1, "x"), 5, api.Reply{})
	r.do(readOf(old, 2), seen(0, bodyOf("\x00x")))
	r.do(readOf(now, 2), seen(4, bodyOf("dy")))
	r.do(commitOf(now), at(5))
	r.do(commitOf(old), fails(api.ErrConflict))
	r.do(begin(), begun(7, 5))
	r.do(readOf(7, 2), seen(5, bodyOf("dy")))
}
