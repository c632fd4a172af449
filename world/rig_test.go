package world

import (
	"fmt"
	"slices"
	"strings"
	"testing"

	"varve/api"
	"varve/cache"
	"varve/page"
	"varve/seal"
)

func of(kind uint8) api.Call { return api.Call{Kind: kind} }

func begin() api.Call              { return of(api.CBegin) }
func commitOf(txn uint64) api.Call { return api.Call{Kind: api.CCommit, Txn: txn} }
func abortOf(txn uint64) api.Call  { return api.Call{Kind: api.CAbort, Txn: txn} }

func readOf(txn uint64, page uint16) api.Call {
	return api.Call{Kind: api.CRead, Txn: txn, Page: page}
}

func writeOf(txn uint64, page uint16, off int, s string) api.Call {
	return api.Call{Kind: api.CWrite, Txn: txn, Page: page, Off: off, S: s}
}

func ask(who int, c api.Call) api.Event { return api.Event{Kind: api.EAsk, A: who, Call: c} }
func step(a int) api.Event              { return api.Event{Kind: api.EStep, A: a} }
func round(a int) api.Event             { return api.Event{Kind: api.ERound, A: a} }
func fuse(a int) api.Event              { return api.Event{Kind: api.EFuse, A: a} }
func fail(a int) api.Event              { return api.Event{Kind: api.EFail, A: a} }
func open(a int) api.Event              { return api.Event{Kind: api.EOpen, A: a} }
func crash(keep ...bool) api.Event      { return api.Event{Kind: api.ECrash, Keep: keep} }

func fails(e api.Errno) api.Reply              { return api.Reply{Err: e} }
func at(ts uint32) api.Reply                   { return api.Reply{Ts: ts} }
func begun(txn uint64, start uint32) api.Reply { return api.Reply{Txn: txn, Ts: start} }

func seen(ts uint32, s string) api.Reply { return api.Reply{Ts: ts, Body: bodyOf(s)} }

// bodyOf is a body with a text at its beginning.
func bodyOf(s string) api.Body {
	var b api.Body
	copy(b[:], s)
	return b
}

// whole is a text as long as a body; two records of versions that differ by such ones fill an undo page.
func whole(c byte) string { return strings.Repeat(string(rune(c)), 64) }

// show is something that was told, short.
func show(t api.Told) string {
	body := strings.TrimRight(string(t.Reply.Body[:]), "\x00")
	return fmt.Sprintf("{who %d, %+v, life %d, %d to %d, open %v, Err %d, Txn %d, Ts %d, %q}",
		t.Who, t.Call, t.Life, t.From, t.To, t.Open, t.Reply.Err, t.Reply.Txn, t.Reply.Ts, body)
}

func small() api.Config { return api.Config{Pages: 4, Undo: 6, Log: 100, MaxTs: 99} }

// wide is a store with so many pages that with four frames a read of one of the first ones is an operation of the disk.
func wide() api.Config { return api.Config{Pages: 16, Undo: 6, Log: 100, MaxTs: 99} }

// rig is a world, with what is done with it.
type rig struct {
	t      *testing.T
	w      *World
	events int
}

func newRig(t *testing.T, c api.Config, frames int) *rig {
	t.Helper()
	w := New(c, frames)
	if w == nil {
		t.Fatalf("New(%+v, %d) is nil", c, frames)
	}
	return &rig{t: t, w: w}
}

func (r *rig) do(events ...api.Event) {
	for _, e := range events {
		r.w.Do(e)
		r.events++
	}
}

// last is what was told last.
func (r *rig) last() api.Told {
	r.t.Helper()
	l := r.w.Told()
	if len(l) == 0 {
		r.t.Fatal("nothing was told")
	}
	return l[len(l)-1]
}

// wantLast fails, unless that was told last.
func (r *rig) wantLast(name string, want api.Told) {
	r.t.Helper()
	if got := r.last(); got != want {
		r.t.Errorf("%s: told %s, want %s", name, show(got), show(want))
	}
}

// wantOpen fails, unless what was told last is open.
func (r *rig) wantOpen(name string) {
	r.t.Helper()
	if got := r.last(); !got.Open || got.To != 0 || got.Reply != (api.Reply{}) {
		r.t.Errorf("%s: told %s", name, show(got))
	}
}

// call lets a client ask, and go on till they are answered.
func (r *rig) call(who int, c api.Call) api.Reply {
	r.t.Helper()
	r.do(ask(who, c))
	return r.rest()
}

// rest goes on till what was asked last is answered.
func (r *rig) rest() api.Reply {
	r.t.Helper()
	for range 2000 {
		if got := r.last(); !got.Open {
			return got.Reply
		}
		r.do(round(1))
	}
	r.t.Fatalf("%s doesn't end", show(r.last()))
	return api.Reply{}
}

// want does a call that must be answered so.
func (r *rig) want(who int, c api.Call, want api.Reply) {
	r.t.Helper()
	if got := r.call(who, c); got != want {
		r.t.Errorf("%s, want Err %d, Txn %d, Ts %d", show(r.last()), want.Err, want.Txn, want.Ts)
	}
}

// committed commits a text to pages, by a client who has no transaction.
func (r *rig) committed(who int, s string, pages ...uint16) {
	r.t.Helper()
	r.call(who, begin())
	for _, no := range pages {
		r.want(who, writeOf(0, no, 0, s), api.Reply{})
	}
	r.want(who, of(api.CCommit), at(r.w.Store().Oracle().Last()+1))
}

// wantPages fails, unless the pages begin with these texts, and have these timestamps.
func (r *rig) wantPages(name string, want ...api.Version) {
	r.t.Helper()
	got, e := r.w.Pages()
	if e != api.OK || !slices.Equal(got, want) {
		r.t.Errorf("%s: Pages = %s, %d, want %s", name, briefly(got), e, briefly(want))
	}
}

func version(ts uint32, s string) api.Version { return api.Version{Ts: ts, Body: bodyOf(s)} }

func briefly(l []api.Version) string {
	var s strings.Builder
	for _, v := range l {
		fmt.Fprintf(&s, "[%d %q]", v.Ts, strings.TrimRight(string(v.Body[:]), "\x00"))
	}
	return s.String()
}

// frames is how many pages can be held at one time; the store is of no use behind it.
func (r *rig) frames() int {
	r.t.Helper()
	c := r.w.Store().State().Base().Cache()
	n := 0
	for _, id := range pagesOf(r.w.Store().State().Master().Config) {
		if _, e := c.Fetch(id); e == api.OK {
			n++
		}
	}
	return n
}

// pagesOf are all pages of a store, in the order of their blocks.
func pagesOf(c api.Config) []api.PageID {
	var list []api.PageID
	for i := range c.Pages {
		list = append(list, api.PageID{No: uint16(i)})
	}
	for i := range c.Undo {
		list = append(list, api.PageID{Undo: true, No: uint16(i)})
	}
	return list
}

// torn are the pages whose block on the disk isn't whole.
func (r *rig) torn(c api.Config) []api.PageID {
	var list []api.PageID
	for _, id := range pagesOf(c) {
		if _, p, ok := seal.Open(r.w.Disk().Seen(cache.Place(c.Pages, id))); !ok || !page.Right(id, p) {
			list = append(list, id)
		}
	}
	return list
}

// records is how many undo records are live.
func (r *rig) records() int { return r.w.Store().State().Base().Room().Live() }

// everything is all that a world shows.
func everything(w *World) string {
	var s strings.Builder
	for _, t := range w.Told() {
		s.WriteString(show(t) + "\n")
	}
	d := w.Disk()
	fmt.Fprintln(&s, w.Life(), w.Store() != nil, d.Ops(), d.Down(), d.Pending())
	for i := range d.Size() {
		fmt.Fprintf(&s, "%x %x\n", d.Seen(i), d.Sure(i))
	}
	return s.String()
}
