package store

import (
	"math"
	"strings"
	"testing"

	"varve/api"
	"varve/disk"
	"varve/restart"
)

func TestExample(t *testing.T) { // P24.5, P1, P2
	r := fresh(t, small(), 5)
	r.ask(0, begin())
	r.ends(0, begun(1, 0))
	r.do(begin(), begun(2, 0))
	r.do(writeOf(1, 2, 0, "hi"), api.Reply{})
	r.do(commitOf(1), at(1))
	r.do(readOf(2, 2), seen(0, api.Body{}))
	r.do(begin(), begun(3, 1))
	r.do(readOf(3, 2), seen(1, bodyOf("hi")))
	r.do(writeOf(2, 2, 0, "ho"), api.Reply{})
	r.do(commitOf(2), fails(api.ErrConflict))
	r.do(commitOf(2), fails(api.ErrTxn))
	r.wantRest("behind all that")
	r.wantLive("behind all that", 3)
}

func TestOpenErrors(t *testing.T) { // P24.1
	wants := func(name string, d *disk.Disk, frames int, want api.Errno) {
		t.Helper()
		if s, e := Open(d, frames); s != nil || e != want {
			t.Errorf("%s: Open = %v, %d, want nil, %d", name, s, e, want)
		}
	}
	for _, frames := range []int{math.MinInt, -1, 0, 3, 33, math.MaxInt} {
		wants("frames", formatted(t, small()), frames, api.ErrArg)
	}
	for _, frames := range []int{4, 32} {
		opened(t, formatted(t, small()), frames)
	}
	wants("no store", disk.New(200), 5, api.ErrForm)
	var none *disk.Disk
	_, e := restart.Open(none, 5)
	wants("no disk", none, 5, e)
	d := formatted(t, small())
	short := disk.New(d.Size() - 1)
	for i := range short.Size() {
		short.Write(i, d.Sure(i))
	}
	wants("too few blocks", short, 5, api.ErrForm)
	down := formatted(t, small())
	down.Plan(nil, 1)
	down.Sync()
	wants("no power", down, 5, api.ErrDown)
}

// used is a disk with a store whose power went while there was much to do.
func used(t *testing.T) *disk.Disk {
	t.Helper()
	r := fresh(t, small(), 5)
	for i := range 4 {
		r.committed(whole(byte('a'+i)), 0, 1, uint16(2+i%2))
	}
	txn := r.writer("lost", 0, 1)
	r.ask(0, commitOf(txn))
	r.goes(0, 5) // both are held, and one is installed
	r.cache().Write(data(0))
	r.d.Crash(nil)
	return r.d
}

func TestOpenFails(t *testing.T) { // P24.1: at each operation
	d := used(t)
	x := copyOf(d)
	opened(t, x, 5)
	x = copyOf(d)
	restart.Open(x, 5)
	n := x.Ops()
	for k := 1; k <= n; k++ {
		for _, f := range failures(k) {
			a, b := copyOf(d), copyOf(d)
			a.Plan(f.fails, f.fuse)
			b.Plan(f.fails, f.fuse)
			s, got := Open(a, 5)
			_, want := restart.Open(b, 5)
			if got != want || (s == nil) != (want != api.OK) || a.Ops() != b.Ops() {
				t.Fatalf("Open with a failure at %d = %v, %d, want %d", k, s, got, want)
			}
		}
	}
}

func TestOpened(t *testing.T) { // P24.1
	c := small()
	c.MaxTs = 7
	r := fresh(t, c, 5)
	if r.s.Halted() || r.s.Oracle().Last() != 0 || r.s.State().Master().Config != c {
		t.Error("a new store isn't as it should be")
	}
	r.wantRest("new")
	r.wantLive("new")
	for who := -2; who < 12; who++ {
		if r.s.Busy(who) || r.s.Ready(who) {
			t.Errorf("%d has a call", who)
		}
	}
	for i := range 5 {
		r.committed(string(rune('a'+i)), 1)
	}
	r.begins()
	r.d.Crash(nil)
	r = opened(t, r.d, 5)
	if r.s.Oracle().Last() != 5 {
		t.Errorf("Last = %d, want 5", r.s.Oracle().Last())
	}
	r.wantLive("opened again")
	r.do(begin(), begun(1, 5)) // their numbers begin anew
	r.do(readOf(1, 1), seen(5, bodyOf("e")))
	r.committed("f", 1)
	r.committed("g", 1) // the last one that MaxTs allows
	txn := r.writer("h", 1)
	r.do(commitOf(txn), fails(api.ErrTs))
}

func TestNil(t *testing.T) { // P24.2, P24.3, P24.4
	var s *Store
	if !s.Halted() || s.State() != nil || s.Oracle() != nil {
		t.Error("of no store: something")
	}
	for who := -1; who < 12; who++ {
		for kind := range 256 {
			if e := s.Ask(who, of(uint8(kind))); e != api.ErrHalted {
				t.Errorf("Ask(%d, %d) = %d", who, kind, e)
			}
		}
		if got, done := s.Step(who); s.Busy(who) || s.Ready(who) || done || got != (api.Reply{}) {
			t.Errorf("%d has a call", who)
		}
	}
}

func TestAsk(t *testing.T) { // P24.2
	r := fresh(t, small(), 5)
	r.begins() // 1
	r.begins() // 2
	r.ask(3, readOf(1, 0))
	for _, x := range []struct {
		who  int
		c    api.Call
		want api.Errno
	}{
		// who
		{-1, begin(), api.ErrArg},
		{10, begin(), api.ErrArg},
		{math.MinInt, begin(), api.ErrArg},
		{math.MaxInt, begin(), api.ErrArg},
		{1<<32 + 3, begin(), api.ErrArg},
		// kinds
		{0, of(8), api.ErrArg},
		{0, of(255), api.ErrArg},
		{3, of(8), api.ErrArg}, // ahead of ErrBusy
		// pages
		{0, readOf(2, 4), api.ErrArg},
		{0, readOf(2, math.MaxUint16), api.ErrArg},
		{3, readOf(2, 4), api.ErrArg},
		{0, readOf(9, 4), api.ErrArg}, // ahead of ErrTxn
		{0, writeOf(2, 4, 0, "x"), api.ErrArg},
		{3, writeOf(9, 4, 0, "x"), api.ErrArg},
		// places
		{0, writeOf(2, 3, -1, ""), api.ErrArg},
		{0, writeOf(2, 3, 65, ""), api.ErrArg},
		{0, writeOf(2, 3, math.MinInt, ""), api.ErrArg},
		{0, writeOf(2, 3, math.MaxInt, "xx"), api.ErrArg},
		{0, writeOf(2, 3, 64, "x"), api.ErrArg},
		{0, writeOf(2, 3, 60, "12345"), api.ErrArg},
		{0, writeOf(2, 3, 0, strings.Repeat("x", 65)), api.ErrArg},
		{3, writeOf(9, 3, 0, strings.Repeat("x", 65)), api.ErrArg},
		// who has a call under way
		{3, begin(), api.ErrBusy},
		{3, of(api.CVacuum), api.ErrBusy},
		{3, of(api.CClose), api.ErrBusy},
		{3, readOf(9, 0), api.ErrBusy}, // ahead of ErrTxn
		{3, readOf(1, 0), api.ErrBusy},
		{3, commitOf(2), api.ErrBusy},
		// transactions
		{0, readOf(9, 0), api.ErrTxn},
		{0, readOf(0, 0), api.ErrTxn},
		{0, writeOf(3, 0, 64, ""), api.ErrTxn},
		{0, commitOf(3), api.ErrTxn},
		{0, abortOf(math.MaxUint64), api.ErrTxn},
		{0, readOf(1, 0), api.ErrBusy},
		{0, writeOf(1, 0, 0, ""), api.ErrBusy},
		{0, commitOf(1), api.ErrBusy},
		{9, abortOf(1), api.ErrBusy},
	} {
		r.refused(x.who, x.c, x.want)
	}
	if r.s.Busy(0) || r.s.Busy(9) || !r.s.Busy(3) {
		t.Error("what was refused is under way")
	}
	r.ends(3, seen(0, api.Body{}))
	r.wantRest("behind what was refused")
	r.wantLive("behind what was refused", 1, 2)
}

func TestAskFits(t *testing.T) { // P24.2
	r := fresh(t, small(), 5)
	txn := r.begins()
	r.do(writeOf(txn, 3, 64, ""), api.Reply{})
	r.do(writeOf(txn, 3, 63, "z"), api.Reply{})
	r.do(writeOf(txn, 3, 60, "1234"), api.Reply{})
	r.do(writeOf(txn, 0, 0, whole('w')), api.Reply{})
	r.do(readOf(txn, 0), seen(0, bodyOf(whole('w'))))
	r.do(readOf(txn, 3), seen(0, bodyOf(strings.Repeat("\x00", 60)+"1234")))
	for _, pages := range []int{1, 16} {
		r := fresh(t, api.Config{Pages: pages, Undo: 1, Log: 64, MaxTs: 9}, 5)
		txn := r.begins()
		r.do(readOf(txn, uint16(pages-1)), seen(0, api.Body{}))
		r.refused(0, readOf(txn, uint16(pages)), api.ErrArg)
	}
	for who := range 10 {
		r.ask(who, readOf(r.beginsAnew(t, who), 0))
		r.ends(who, seen(0, api.Body{}))
	}
}

// beginsAnew begins a transaction by who asks, ending an older one if there are too many.
func (r *rig) beginsAnew(t *testing.T, who int) uint64 {
	t.Helper()
	if live := r.s.Oracle().Live(); len(live) == api.MaxLive {
		r.do(abortOf(live[len(live)-1]), api.Reply{})
	}
	got, n := r.call(who, begin())
	if got.Err != api.OK || n != 1 {
		t.Fatalf("CBegin of %d = %+v in %d steps", who, got, n)
	}
	return got.Txn
}

func TestAskUnused(t *testing.T) { // P24.2: what a Kind doesn't use counts for nothing
	r := fresh(t, small(), 5)
	odd := func(kind uint8, txn uint64) api.Call {
		return api.Call{Kind: kind, Txn: txn, Page: 99, Off: -7, S: strings.Repeat("x", 99)}
	}
	r.do(odd(api.CBegin, 77), begun(1, 0))
	r.do(begin(), begun(2, 0))
	r.do(api.Call{Kind: api.CRead, Txn: 1, Page: 3, Off: 99, S: strings.Repeat("x", 99)}, seen(0, api.Body{}))
	// a Txn that they don't use isn't taken, and is nothing that is missing
	for _, kind := range []uint8{api.CBegin, api.CVacuum, api.CCheckpoint, api.CClose} {
		r.ask(1, odd(kind, 1))
		r.do(readOf(1, 2), seen(0, api.Body{}))
		r.ask(2, readOf(1, 2))
		if kind != api.CClose {
			r.rest(1)
		} else {
			r.ends(1, fails(api.ErrBusy))
		}
		r.refused(3, readOf(1, 2), api.ErrBusy) // that one is under way still
		r.ends(2, seen(0, api.Body{}))
	}
	r.do(odd(api.CCommit, 1), at(0))
	r.do(odd(api.CAbort, 2), api.Reply{})
	r.do(odd(api.CClose, 5), api.Reply{})
}

func TestBusyAndReady(t *testing.T) { // P24.3
	r := fresh(t, small(), 5)
	for _, who := range []int{-1, 0, 5, 9, 10, math.MaxInt} {
		if got, done := r.s.Step(who); got != (api.Reply{}) || done || r.s.Busy(who) || r.s.Ready(who) {
			t.Errorf("Step(%d) of who has no call = %+v, %v", who, got, done)
		}
	}
	a, b, c := r.writer("a", 0), r.writer("b", 1), r.begins()
	for i, x := range []api.Call{commitOf(a), commitOf(b), of(api.CVacuum), readOf(c, 0)} {
		r.ask(5-i, x) // 5, 4, 3 and 2
		if !r.s.Busy(5-i) || !r.s.Ready(5-i) {
			t.Errorf("%d isn't ready", 5-i)
		}
	}
	r.goes(4, 1) // it asks first
	r.goes(5, 1)
	r.goes(3, 1)
	r.stands(5)
	r.stands(3)
	r.ends(2, seen(0, api.Body{})) // who needs no turn goes on
	r.goes(4, 3)
	r.stands(5)
	r.ends(4, at(1))
	r.stands(3) // the turn goes in the order in which it was asked for
	r.goes(5, 3)
	r.stands(3)
	r.ends(5, at(2))
	r.goes(3, 1)
	r.refused(3, begin(), api.ErrBusy)
	if got, _ := r.rest(3); got != (api.Reply{}) {
		t.Errorf("CVacuum = %+v", got)
	}
	r.wantRest("behind all that")
}

func TestWaitsInLine(t *testing.T) { // P24.3: whoever leaves the line, the next one has the turn
	r := fresh(t, small(), 5)
	old := r.writer("old", 0)
	a, b := r.writer("a", 0), r.writer("b", 1)
	r.ask(7, commitOf(a))
	r.ask(8, commitOf(old))
	r.ask(9, commitOf(b))
	for _, who := range []int{7, 8, 9} {
		r.goes(who, 1)
	}
	r.goes(7, 3)
	r.ends(7, at(1))
	r.stands(9)
	r.goes(8, 1)
	r.ends(8, fails(api.ErrConflict))
	r.goes(9, 3)
	r.ends(9, at(2))
	r.wantRest("behind all that")
}

func TestBeginAndAbort(t *testing.T) { // P24.5
	r := fresh(t, small(), 5)
	for i := range uint64(8) {
		r.takes(begin(), 1, begun(i+1, 0))
	}
	r.takes(begin(), 1, fails(api.ErrMany))
	r.takes(abortOf(3), 1, api.Reply{})
	r.takes(begin(), 1, begun(9, 0))
	r.wantLive("behind that", 1, 2, 4, 5, 6, 7, 8, 9)
	r.do(writeOf(9, 0, 0, "x"), api.Reply{})
	r.takes(abortOf(9), 1, api.Reply{})
	r.do(abortOf(9), fails(api.ErrTxn))
	r.do(readOf(9, 0), fails(api.ErrTxn))
	r.do(begin(), begun(10, 0))
	r.do(readOf(10, 0), seen(0, api.Body{}))
	r.wantVersions(0, 0)
	if r.d.Ops() > 2 { // nothing but the page was read, and nothing written
		t.Errorf("there were %d operations", r.d.Ops())
	}
}

func TestBeginsWhenItsStepComes(t *testing.T) { // P24.3
	r := fresh(t, small(), 5)
	r.ask(1, begin())
	r.ask(2, begin())
	r.committed("x", 0) // the transaction 1
	r.ends(2, begun(2, 1))
	r.ends(1, begun(3, 1))
}

func TestAskedAgain(t *testing.T) { // P24.2: what is handed in isn't looked at any more
	r := fresh(t, small(), 5)
	text := []byte("abc")
	txn := r.begins()
	c := writeOf(txn, 0, 0, string(text))
	r.ask(0, c)
	c.Page, c.S, text[0] = 3, "zzz", 'z'
	r.ends(0, api.Reply{})
	r.do(readOf(txn, 0), seen(0, bodyOf("abc")))
	r.do(readOf(txn, 3), seen(0, api.Body{}))
}
