package model

import (
	"testing"

	"varve/api"
)

func begin() api.Call                          { return api.Call{Kind: api.CBegin} }
func commit(txn uint64) api.Call               { return api.Call{Kind: api.CCommit, Txn: txn} }
func abort(txn uint64) api.Call                { return api.Call{Kind: api.CAbort, Txn: txn} }
func of(kind uint8) api.Call                   { return api.Call{Kind: kind} }
func begun(txn uint64, start uint32) api.Reply { return api.Reply{Txn: txn, Ts: start} }
func fails(e api.Errno) api.Reply              { return api.Reply{Err: e} }
func at(ts uint32) api.Reply                   { return api.Reply{Ts: ts} }

func read(txn uint64, page uint16) api.Call {
	return api.Call{Kind: api.CRead, Txn: txn, Page: page}
}

func write(txn uint64, page uint16, off int, s string) api.Call {
	return api.Call{Kind: api.CWrite, Txn: txn, Page: page, Off: off, S: s}
}

// bodyOf is a body with a text from a place on.
func bodyOf(off int, s string) api.Body {
	var b api.Body
	copy(b[off:], s)
	return b
}

// seen is the answer of a read.
func seen(ts uint32, body api.Body) api.Reply { return api.Reply{Ts: ts, Body: body} }

// rig is a machine under test.
type rig struct {
	t *testing.T
	m *Model
}

func newRig(t *testing.T, pages int, max uint32) *rig {
	t.Helper()
	m := New(pages, max)
	if m == nil {
		t.Fatalf("New(%d, %d) = nil", pages, max)
	}
	return &rig{t, m}
}

// do does a call that must be answered so.
func (r *rig) do(c api.Call, want api.Reply) {
	r.t.Helper()
	if got := r.m.Do(c); got != want {
		r.t.Errorf("Do(%+v) = %+v, want %+v", c, got, want)
	}
}

func (r *rig) wantAt(page uint16, ts uint32, want api.Version) {
	r.t.Helper()
	if got := r.m.At(page, ts); got != want {
		r.t.Errorf("At(%d, %d) = %v, want %v", page, ts, got, want)
	}
}

func (r *rig) wantLast(want uint32) {
	r.t.Helper()
	if got := r.m.Last(); got != want {
		r.t.Errorf("Last = %d, want %d", got, want)
	}
}

// committed makes a commit of one page.
func (r *rig) committed(page uint16, s string) uint32 {
	r.t.Helper()
	txn := r.m.Do(begin()).Txn
	r.do(write(txn, page, 0, s), api.Reply{})
	ts := r.m.Last() + 1
	r.do(commit(txn), at(ts))
	return ts
}
