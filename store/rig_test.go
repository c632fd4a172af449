package store

import (
	"fmt"
	"slices"
	"strings"
	"testing"

	"varve/api"
	"varve/base"
	"varve/cache"
	"varve/chain"
	"varve/disk"
	"varve/log"
	"varve/master"
	"varve/restart"
)

func of(kind uint8) api.Call { return api.Call{Kind: kind} }

func begin() api.Call              { return of(api.CBegin) }
func commitOf(txn uint64) api.Call { return api.Call{Kind: api.CCommit, Txn: txn} }
func abortOf(txn uint64) api.Call  { return api.Call{Kind: api.CAbort, Txn: txn} }

func readOf(txn uint64, page uint16) api.Call {
	return api.Call{Kind: api.CRead, Txn: txn, Page: page}
}

func writeOf(txn uint64, page uint16, off int, s string) api.Call {
	return api.Call{Kind: api.CWrite, Txn: txn, Page: page, Off: off, S: s}
}

func fails(e api.Errno) api.Reply              { return api.Reply{Err: e} }
func at(ts uint32) api.Reply                   { return api.Reply{Ts: ts} }
func begun(txn uint64, start uint32) api.Reply { return api.Reply{Txn: txn, Ts: start} }
func seen(ts uint32, b api.Body) api.Reply     { return api.Reply{Ts: ts, Body: b} }

// bodyOf is a body with a text at its beginning.
func bodyOf(s string) api.Body {
	var b api.Body
	copy(b[:], s)
	return b
}

// whole is a text as long as a body; three versions that differ by such ones fill an undo page.
func whole(c byte) string { return strings.Repeat(string(rune(c)), 64) }

// show is an answer, short.
func show(r api.Reply) string {
	return fmt.Sprintf("{Err %d, Txn %d, Ts %d, %q}", r.Err, r.Txn, r.Ts, strings.TrimRight(string(r.Body[:]), "\x00"))
}

func data(no uint16) api.PageID { return api.PageID{No: no} }
func undo(no uint16) api.PageID { return api.PageID{Undo: true, No: no} }

func small() api.Config { return api.Config{Pages: 4, Undo: 6, Log: 100, MaxTs: 99} }

// formatted is a disk of just as many blocks as a new store takes, with it.
func formatted(t *testing.T, c api.Config) *disk.Disk {
	t.Helper()
	d := disk.New(master.Size(c))
	if e := restart.Format(d, c); e != api.OK {
		t.Fatalf("Format(%v) = %d", c, e)
	}
	d.Plan(nil, 0)
	return d
}

// copyOf is a disk with what lasts on another one.
func copyOf(d *disk.Disk) *disk.Disk {
	x := disk.New(d.Size())
	for i := range d.Size() {
		x.Write(i, d.Sure(i))
	}
	x.Sync()
	x.Plan(nil, 0)
	return x
}

// rig is a store that is open.
type rig struct {
	t *testing.T
	d *disk.Disk
	s *Store
}

// opened opens a store; the disk's count is 0 then.
func opened(t *testing.T, d *disk.Disk, frames int) *rig {
	t.Helper()
	s, e := Open(d, frames)
	if e != api.OK || s == nil {
		t.Fatalf("Open = %v, %d", s, e)
	}
	d.Plan(nil, 0)
	return &rig{t, d, s}
}

func fresh(t *testing.T, c api.Config, frames int) *rig {
	t.Helper()
	return opened(t, formatted(t, c), frames)
}

func (r *rig) base() *base.Base    { return r.s.State().Base() }
func (r *rig) cache() *cache.Cache { return r.base().Cache() }
func (r *rig) log() *log.Log       { return r.base().Log() }

func (r *rig) ask(who int, c api.Call) {
	r.t.Helper()
	if e := r.s.Ask(who, c); e != api.OK {
		r.t.Fatalf("Ask(%d, %+v) = %d", who, c, e)
	}
}

func (r *rig) refused(who int, c api.Call, want api.Errno) {
	r.t.Helper()
	if e := r.s.Ask(who, c); e != want {
		r.t.Errorf("Ask(%d, %+v) = %d, want %d", who, c, e, want)
	}
}

// goes goes steps on, none of which ends the call.
func (r *rig) goes(who, steps int) {
	r.t.Helper()
	for i := range steps {
		if !r.s.Ready(who) {
			r.t.Errorf("%d isn't ready ahead of the step %d", who, i+1)
		}
		if got, done := r.s.Step(who); done || got != (api.Reply{}) {
			r.t.Fatalf("the step %d of %d = %s, %v", i+1, who, show(got), done)
		}
	}
}

// ends goes a step on which ends the call.
func (r *rig) ends(who int, want api.Reply) {
	r.t.Helper()
	if got, done := r.s.Step(who); !done || got != want {
		r.t.Errorf("the last step of %d = %s, %v, want %s", who, show(got), done, show(want))
	}
	if r.s.Busy(who) || r.s.Ready(who) {
		r.t.Errorf("%d has a call still", who)
	}
}

// stands says that somebody waits: no step does anything.
func (r *rig) stands(who int) {
	r.t.Helper()
	n := r.d.Ops()
	if r.s.Ready(who) || !r.s.Busy(who) {
		r.t.Errorf("%d doesn't wait", who)
	}
	if got, done := r.s.Step(who); done || got != (api.Reply{}) || r.d.Ops() != n || !r.s.Busy(who) {
		r.t.Errorf("a step of %d, who waits = %s, %v", who, show(got), done)
	}
}

// rest goes to the end of a call; the answer is the reply, and how many steps there were.
func (r *rig) rest(who int) (api.Reply, int) {
	r.t.Helper()
	for n := 1; n < 2000; n++ {
		if got, done := r.s.Step(who); done {
			return got, n
		}
	}
	r.t.Fatalf("the call of %d doesn't end", who)
	return api.Reply{}, 0
}

// call does a call to its end.
func (r *rig) call(who int, c api.Call) (api.Reply, int) {
	r.t.Helper()
	if e := r.s.Ask(who, c); e != api.OK {
		return fails(e), 0
	}
	return r.rest(who)
}

// do does a call that must be answered so.
func (r *rig) do(c api.Call, want api.Reply) {
	r.t.Helper()
	if got, _ := r.call(0, c); got != want {
		r.t.Errorf("%+v = %s, want %s", c, show(got), show(want))
	}
}

// takes does a call that must be answered so, in so many steps.
func (r *rig) takes(c api.Call, steps int, want api.Reply) {
	r.t.Helper()
	if got, n := r.call(0, c); got != want || n != steps {
		r.t.Errorf("%+v = %s in %d steps, want %s in %d", c, show(got), n, show(want), steps)
	}
}

// begins begins a transaction; the answer is its number.
func (r *rig) begins() uint64 {
	r.t.Helper()
	got, _ := r.call(0, begin())
	if got.Err != api.OK {
		r.t.Fatalf("CBegin = %s", show(got))
	}
	return got.Txn
}

// writer begins a transaction that has written a text to pages.
func (r *rig) writer(s string, pages ...uint16) uint64 {
	r.t.Helper()
	txn := r.begins()
	for _, no := range pages {
		r.do(writeOf(txn, no, 0, s), api.Reply{})
	}
	return txn
}

// committed commits a text to pages.
func (r *rig) committed(s string, pages ...uint16) {
	r.t.Helper()
	txn := r.writer(s, pages...)
	r.do(commitOf(txn), at(r.s.Oracle().Last()+1))
}

// wantVersions fails, unless a page has versions of these timestamps.
func (r *rig) wantVersions(no uint16, want ...uint32) {
	r.t.Helper()
	list, e := chain.Versions(r.cache(), no)
	var got []uint32
	for _, v := range list {
		got = append(got, v.Ts)
	}
	if e != api.OK || !slices.Equal(got, want) {
		r.t.Errorf("the page %d has the versions %v, %d, want %v", no, got, e, want)
	}
}

// wantRest fails, if a page is held, somebody is in the turn's line, a call is under way, or something else was left.
func (r *rig) wantRest(name string) {
	r.t.Helper()
	for _, id := range pagesOf(r.base().Config()) {
		if n := r.cache().Pins(id); n != 0 {
			r.t.Errorf("%s: %v is held %d times", name, id, n)
		}
	}
	if line := r.s.turn.Line(); len(line) > 0 {
		r.t.Errorf("%s: %v are in the line", name, line)
	}
	if len(r.s.calls) > 0 || len(r.s.busy) > 0 {
		r.t.Errorf("%s: %d calls are under way, of %d transactions", name, len(r.s.calls), len(r.s.busy))
	}
	for txn := range r.s.sets { // no more is kept than is needed
		if _, ok := r.s.Oracle().Start(txn); !ok {
			r.t.Errorf("%s: what %d has written is kept, though it isn't live", name, txn)
		}
	}
}

func (r *rig) wantLive(name string, want ...uint64) {
	r.t.Helper()
	if got := r.s.Oracle().Live(); !slices.Equal(got, want) {
		r.t.Errorf("%s: %v are live, want %v", name, got, want)
	}
}

func (r *rig) wantRecords(name string, want int) {
	r.t.Helper()
	if got := r.base().Room().Live(); got != want {
		r.t.Errorf("%s: %d undo records are live, want %d", name, got, want)
	}
}

// fill lays texts in the log till it has just so many blocks free.
func (r *rig) fill(free int) {
	r.t.Helper()
	for r.log().Free() > free {
		r.log().Append("x")
		if e := r.log().Flush(); e != api.OK {
			r.t.Fatalf("Flush = %d", e)
		}
	}
	if r.log().Free() != free {
		r.t.Fatalf("%d blocks are free, not %d", r.log().Free(), free)
	}
}

// pagesOf are all pages of a store, in the order of their blocks.
func pagesOf(c api.Config) []api.PageID {
	var list []api.PageID
	for i := range c.Pages {
		list = append(list, data(uint16(i)))
	}
	for i := range c.Undo {
		list = append(list, undo(uint16(i)))
	}
	return list
}

// failure is a plan of a disk by which one of its operations fails.
type failure struct {
	fails []int
	fuse  int
	want  api.Errno
}

func failures(k int) []failure {
	return []failure{{[]int{k}, 0, api.ErrIO}, {nil, k, api.ErrDown}}
}

// times are the timestamps of a page's versions.
func (r *rig) times(no uint16) []uint32 {
	list, _ := chain.Versions(r.cache(), no)
	var all []uint32
	for _, v := range list {
		all = append(all, v.Ts)
	}
	return all
}
