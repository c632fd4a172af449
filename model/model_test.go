package model

import (
	"math"
	"strings"
	"testing"

	"varve/api"
)

func TestExample(t *testing.T) { // P25.2
	r := newRig(t, 4, 99)
	r.do(begin(), begun(1, 0))
	r.do(begin(), begun(2, 0))
	r.do(write(1, 2, 0, "hi"), api.Reply{})
	r.do(write(2, 2, 0, "ho"), api.Reply{})
	r.do(commit(2), at(1))
	r.do(commit(1), fails(api.ErrConflict))
	r.do(commit(1), fails(api.ErrTxn))
}

func TestNew(t *testing.T) { // P25.1
	for _, n := range []int{math.MinInt, -1, 0, 17, 1 << 16, 1<<16 + 1, 1 << 32, math.MaxInt} {
		if New(n, 9) != nil {
			t.Errorf("New(%d) is a machine", n)
		}
	}
	for _, n := range []int{1, 2, 15, 16} {
		r := newRig(t, n, 9)
		r.wantLast(0)
		r.do(begin(), begun(1, 0))
		for page := range uint16(20) {
			want := seen(0, api.Body{})
			if int(page) >= n {
				want = fails(api.ErrArg)
			}
			r.do(read(1, page), want)
			r.wantAt(page, 5, api.Version{})
		}
	}
}

func TestNil(t *testing.T) { // P25.1
	var m *Model
	for kind := range 256 {
		if got := m.Do(api.Call{Kind: uint8(kind)}); got != fails(api.ErrHalted) {
			t.Errorf("Do of the kind %d = %+v", kind, got)
		}
	}
	if m.At(0, 0) != (api.Version{}) || m.At(9, 9) != (api.Version{}) || m.Last() != 0 {
		t.Error("of none: something")
	}
}

func TestClosed(t *testing.T) { // P25.2
	r := newRig(t, 2, 99)
	r.committed(1, "x")
	r.do(begin(), begun(2, 1))
	r.do(of(api.CClose), api.Reply{})
	for kind := range 256 { // ahead of all other errors
		r.do(api.Call{Kind: uint8(kind), Txn: 2}, fails(api.ErrHalted))
		r.do(api.Call{Kind: uint8(kind), Txn: 7, Page: 99, Off: -1}, fails(api.ErrHalted))
	}
	r.wantLast(1)
	r.wantAt(1, 1, api.Version{Ts: 1, Body: bodyOf(0, "x")})
}

func TestKinds(t *testing.T) { // P25.2
	r := newRig(t, 2, 99)
	for kind := int(api.CClose) + 1; kind < 256; kind++ {
		r.do(api.Call{Kind: uint8(kind)}, fails(api.ErrArg))
	}
	r.do(begin(), begun(1, 0))
	r.do(write(1, 0, 0, "x"), api.Reply{})
	for _, kind := range []uint8{api.CVacuum, api.CCheckpoint} { // what they don't use counts for nothing
		r.do(api.Call{Kind: kind}, api.Reply{})
		r.do(api.Call{Kind: kind, Txn: 1, Page: 77, Off: -5, S: strings.Repeat("x", 99)}, api.Reply{})
	}
	r.do(api.Call{Kind: api.CBegin, Txn: 1, Page: 77, Off: -5}, begun(2, 0))
	r.do(read(1, 0), seen(0, bodyOf(0, "x")))
	r.do(api.Call{Kind: api.CCommit, Txn: 1, Page: 77, Off: -5}, at(1))
	r.do(api.Call{Kind: api.CAbort, Txn: 2, Page: 77, Off: 99}, api.Reply{})
	r.do(api.Call{Kind: api.CClose, Txn: 9, Page: 77, Off: 99}, api.Reply{})
}

func TestBegin(t *testing.T) { // P25.2
	r := newRig(t, 2, 99)
	for i := range uint64(8) {
		r.do(begin(), begun(i+1, 0))
	}
	r.do(begin(), fails(api.ErrMany))
	r.do(begin(), fails(api.ErrMany))
	r.do(abort(3), api.Reply{})
	r.do(begin(), begun(9, 0)) // what was refused has no number
	r.do(begin(), fails(api.ErrMany))
	r.do(commit(9), at(0))
	r.do(begin(), begun(10, 0))
}

func TestStarts(t *testing.T) { // P25.2, P25.4, P25.5
	r := newRig(t, 2, 99)
	for i := range uint32(5) {
		r.wantLast(i)
		r.do(begin(), begun(uint64(2*i+1), i))
		r.do(abort(uint64(2*i+1)), api.Reply{})
		if ts := r.committed(1, "x"); ts != i+1 {
			t.Errorf("a commit's timestamp is %d, want %d", ts, i+1)
		}
	}
}

func TestErrorsInOrder(t *testing.T) { // P25.2
	r := newRig(t, 3, 99)
	r.do(begin(), begun(1, 0))
	for page := range uint16(3) {
		r.do(write(1, page, 0, "x"), api.Reply{})
	}
	for _, x := range []struct {
		c    api.Call
		want api.Errno
	}{
		{read(1, 3), api.ErrArg},
		{read(9, 3), api.ErrArg},
		{read(9, 2), api.ErrTxn},
		{read(0, 2), api.ErrTxn},
		{read(math.MaxUint64, 2), api.ErrTxn},
		{read(1, math.MaxUint16), api.ErrArg},
		{write(1, 3, 0, "x"), api.ErrArg},
		{write(9, 3, 0, "x"), api.ErrArg},
		{write(9, 2, -1, "x"), api.ErrArg},
		{write(9, 2, 65, ""), api.ErrArg},
		{write(9, 2, 64, "x"), api.ErrArg},
		{write(9, 2, 64, ""), api.ErrTxn},
		{write(9, 2, 0, "x"), api.ErrTxn},
		{write(1, 2, -1, ""), api.ErrArg},
		{write(1, 2, math.MinInt, ""), api.ErrArg},
		{write(1, 2, math.MaxInt, "x"), api.ErrArg},
		{write(1, 2, 65, ""), api.ErrArg},
		{write(1, 2, 64, "x"), api.ErrArg},
		{write(1, 2, 63, "xy"), api.ErrArg},
		{write(1, 2, 0, strings.Repeat("x", 65)), api.ErrArg},
		{write(1, 2, 64, ""), api.OK},
		{write(1, 2, 63, "y"), api.OK},
		{write(1, 2, 0, strings.Repeat("z", 64)), api.OK},
		{commit(9), api.ErrTxn},
		{commit(0), api.ErrTxn},
		{abort(9), api.ErrTxn},
		{abort(0), api.ErrTxn},
	} {
		r.do(x.c, fails(x.want))
	}
	r.do(read(1, 2), seen(0, bodyOf(0, strings.Repeat("z", 64))))
	r.do(read(1, 1), seen(0, bodyOf(0, "x")))
	r.do(api.Call{Kind: api.CRead, Txn: 1, Page: 1, Off: 99, S: strings.Repeat("x", 65)}, seen(0, bodyOf(0, "x")))
	r.do(commit(1), at(1))
}

func TestReadsAtOneMoment(t *testing.T) { // P25.2, P25.5
	r := newRig(t, 3, 99)
	r.do(begin(), begun(1, 0))
	r.committed(1, "a") // the transaction 2
	r.do(begin(), begun(3, 1))
	r.committed(2, "b") // 4
	r.committed(1, "c") // 5
	r.do(begin(), begun(6, 3))
	r.do(read(1, 1), seen(0, api.Body{}))
	r.do(read(3, 1), seen(1, bodyOf(0, "a")))
	r.do(read(3, 2), seen(0, api.Body{}))
	r.do(read(6, 1), seen(3, bodyOf(0, "c")))
	r.do(read(6, 2), seen(2, bodyOf(0, "b")))
	r.do(read(6, 0), seen(0, api.Body{}))
	// what one has written is seen by oneself, over what was there at the start; Ts is the start
	r.do(write(3, 1, 2, "zz"), api.Reply{})
	r.do(write(3, 1, 3, "y"), api.Reply{})
	r.do(read(3, 1), seen(1, bodyOf(0, "a\x00zy")))
	r.do(read(3, 2), seen(0, api.Body{}))
	r.do(read(6, 1), seen(3, bodyOf(0, "c")))
	r.do(begin(), begun(7, 3))
	r.do(read(7, 1), seen(3, bodyOf(0, "c")))
	r.do(abort(3), api.Reply{})
	r.do(read(3, 1), fails(api.ErrTxn))
	r.do(begin(), begun(8, 3))
	r.do(read(8, 1), seen(3, bodyOf(0, "c"))) // what was given up is never seen
}

func TestWritesOverTheStart(t *testing.T) { // P25.2
	r := newRig(t, 2, 99)
	r.committed(0, "abc")
	r.do(begin(), begun(2, 1))
	r.committed(1, "new")
	r.do(write(2, 0, 1, "X"), api.Reply{})
	r.do(commit(2), at(3))
	r.wantAt(0, 3, api.Version{Ts: 3, Body: bodyOf(0, "aXc")})
	r.wantAt(0, 2, api.Version{Ts: 1, Body: bodyOf(0, "abc")})
	r.wantAt(1, 3, api.Version{Ts: 2, Body: bodyOf(0, "new")})
}

func TestEmptyWrite(t *testing.T) { // P25.2
	r := newRig(t, 16, 99)
	r.committed(1, "abc")
	r.do(begin(), begun(2, 1))
	r.do(begin(), begun(3, 1))
	r.do(write(2, 1, 64, ""), api.Reply{})
	r.do(read(2, 1), seen(1, bodyOf(0, "abc")))
	r.do(write(3, 1, 0, ""), api.Reply{})
	for page := range uint16(3) {
		r.do(write(2, page+5, 0, ""), api.Reply{})
	}
	r.do(write(2, 9, 0, ""), fails(api.ErrMany)) // the page counts as written
	r.do(commit(2), at(2))
	r.wantAt(1, 2, api.Version{Ts: 2, Body: bodyOf(0, "abc")})
	r.wantAt(5, 2, api.Version{Ts: 2})
	r.wantAt(9, 2, api.Version{})
	r.do(commit(3), fails(api.ErrConflict))
}

func TestManyWrites(t *testing.T) { // P25.2
	r := newRig(t, 16, 99)
	r.do(begin(), begun(1, 0))
	for _, page := range []uint16{3, 15, 0, 7} {
		r.do(write(1, page, 0, "a"), api.Reply{})
	}
	r.do(write(1, 4, 0, "b"), fails(api.ErrMany))
	r.do(write(1, 16, 0, "b"), fails(api.ErrArg))
	r.do(write(9, 4, 0, "b"), fails(api.ErrTxn))
	r.do(read(1, 4), seen(0, api.Body{}))
	r.do(write(1, 15, 1, "b"), api.Reply{})
	r.do(write(1, 4, 0, ""), fails(api.ErrMany))
	r.do(commit(1), at(1))
	for page := range uint16(16) {
		var want api.Version
		switch page {
		case 0, 3, 7:
			want = api.Version{Ts: 1, Body: bodyOf(0, "a")}
		case 15:
			want = api.Version{Ts: 1, Body: bodyOf(0, "ab")}
		}
		r.wantAt(page, 1, want)
	}
}

func TestConflicts(t *testing.T) { // P25.2, P25.5
	r := newRig(t, 4, 99)
	for txn := range uint64(4) {
		r.do(begin(), begun(txn+1, 0))
	}
	r.do(write(1, 0, 0, "a"), api.Reply{})
	r.do(write(2, 3, 0, "b"), api.Reply{})
	r.do(write(3, 2, 0, "c"), api.Reply{})
	r.do(write(3, 3, 0, "c"), api.Reply{})
	r.do(commit(1), at(1)) // of a page that the others haven't written
	r.do(commit(2), at(2))
	r.do(commit(3), fails(api.ErrConflict)) // by one of its pages
	r.wantLast(2)
	r.wantAt(2, 9, api.Version{})
	r.wantAt(3, 9, api.Version{Ts: 2, Body: bodyOf(0, "b")})
	for _, c := range []api.Call{read(3, 0), write(3, 0, 0, ""), commit(3), abort(3)} {
		r.do(c, fails(api.ErrTxn)) // it isn't live any more
	}
	r.do(read(4, 3), seen(0, api.Body{}))
	r.do(begin(), begun(5, 2))
	r.do(write(5, 3, 0, "d"), api.Reply{})
	r.do(write(4, 3, 0, "e"), api.Reply{})
	r.do(commit(5), at(3)) // its start is behind the version
	r.do(commit(4), fails(api.ErrConflict))
}

func TestAborted(t *testing.T) { // P25.2: who was given up is in nobody's way
	r := newRig(t, 2, 99)
	r.do(begin(), begun(1, 0))
	r.do(begin(), begun(2, 0))
	r.do(write(1, 1, 0, "a"), api.Reply{})
	r.do(write(2, 1, 0, "b"), api.Reply{})
	r.do(abort(1), api.Reply{})
	r.do(abort(1), fails(api.ErrTxn))
	r.do(commit(2), at(1))
	r.wantAt(1, 1, api.Version{Ts: 1, Body: bodyOf(0, "b")})
}

func TestOfNoWrites(t *testing.T) { // P25.2: the start, whatever was committed meanwhile, and at the last timestamp too
	r := newRig(t, 2, 2)
	r.do(begin(), begun(1, 0))
	r.committed(1, "a")
	r.do(begin(), begun(3, 1))
	r.do(read(1, 1), seen(0, api.Body{}))
	r.do(commit(1), at(0))
	r.committed(1, "b")
	r.do(commit(3), at(1))
	r.do(begin(), begun(5, 2))
	r.do(commit(5), at(2))
	r.wantLast(2)
}

func TestLastTimestamp(t *testing.T) { // P25.2
	for _, max := range []uint32{0, 1, 2} {
		r := newRig(t, 2, max)
		for range max {
			r.committed(1, "a")
		}
		r.do(begin(), begun(uint64(max)+1, max))
		r.do(write(uint64(max)+1, 1, 0, "b"), api.Reply{})
		r.do(commit(uint64(max)+1), fails(api.ErrTs))
		r.do(commit(uint64(max)+1), fails(api.ErrTxn))
		r.wantLast(max)
		r.wantAt(1, math.MaxUint32, api.Version{Ts: max, Body: bodyOf(0, "a"[:min(max, 1)])})
	}
	r := newRig(t, 2, 1)
	r.do(begin(), begun(1, 0))
	r.do(write(1, 1, 0, "b"), api.Reply{})
	r.committed(1, "a")
	r.do(commit(1), fails(api.ErrTs)) // ahead of the conflict
	r = newRig(t, 2, math.MaxUint32)
	r.committed(1, "a")
}

func TestAt(t *testing.T) { // P25.3
	r := newRig(t, 3, 99)
	r.wantAt(1, 0, api.Version{})
	r.committed(1, "a") // 1
	r.committed(2, "-")
	r.committed(2, "-")
	r.committed(1, "b") // 4
	r.committed(2, "-")
	r.committed(1, "c") // 6
	a, b, c := api.Version{Ts: 1, Body: bodyOf(0, "a")}, api.Version{Ts: 4, Body: bodyOf(0, "b")}, api.Version{Ts: 6, Body: bodyOf(0, "c")}
	for ts, want := range []api.Version{{}, a, a, a, b, b, c, c} {
		r.wantAt(1, uint32(ts), want)
	}
	r.wantAt(1, math.MaxUint32, c)
	r.wantAt(0, math.MaxUint32, api.Version{})
	r.wantAt(3, 6, api.Version{})
	r.wantAt(math.MaxUint16, 6, api.Version{})
	r.wantLast(6)
}
