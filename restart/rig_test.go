package restart

import (
	"slices"
	"testing"

	"varve/api"
	"varve/chain"
	"varve/commit"
	"varve/delta"
	"varve/disk"
	"varve/log"
	"varve/master"
	"varve/page"
	"varve/rec"
	"varve/ring"
	"varve/seal"
)

func data(no uint16) api.PageID { return api.PageID{No: no} }
func undo(no uint16) api.PageID { return api.PageID{Undo: true, No: no} }

func version(ts uint32, body api.Body) api.Version { return api.Version{Ts: ts, Body: body} }

// bodyOf is a body that differs from that of another number below 256 at its beginning and its end.
func bodyOf(n int) api.Body {
	return api.Body{0: byte(n), 63: byte(n)}
}

// wholeOf is one that differs from that of another number at all places, so that an undo page has room for two.
func wholeOf(n int) api.Body {
	var b api.Body
	for i := range b {
		b[i] = byte(n)
	}
	return b
}

// blockOf is a block of which no two sectors are sealed together.
func blockOf(n int) api.Block {
	var b api.Block
	for i := range b {
		b[i] = byte(n + i)
	}
	return b
}

// small is a store that opens quickly, example the chapter's one.
func small() api.Config   { return api.Config{Pages: 4, Undo: 3, Log: 64, MaxTs: 99} }
func example() api.Config { return api.Config{Pages: 4, Undo: 6, Log: 90, MaxTs: 99} }

// pagesOf are all pages of a store, in the order of their blocks.
func pagesOf(c api.Config) []api.PageID {
	var list []api.PageID
	for i := range c.Pages {
		list = append(list, data(uint16(i)))
	}
	for i := range c.Undo {
		list = append(list, undo(uint16(i)))
	}
	return list
}

func want(t *testing.T, name string, got, want api.Errno) {
	t.Helper()
	if got != want {
		t.Errorf("%s = %d, want %d", name, got, want)
	}
}

// formatted is a disk of just as many blocks as a new store takes, with it.
func formatted(t *testing.T, c api.Config) *disk.Disk {
	t.Helper()
	d := disk.New(master.Size(c))
	if e := Format(d, c); e != api.OK {
		t.Fatalf("Format(%v) = %d", c, e)
	}
	d.Plan(nil, 0)
	return d
}

// copyOf is a disk with what lasts on another one.
func copyOf(d *disk.Disk) *disk.Disk {
	x := disk.New(d.Size())
	for i := range d.Size() {
		x.Write(i, d.Sure(i))
	}
	x.Sync()
	x.Plan(nil, 0)
	return x
}

// sure are all blocks of a disk as they last.
func sure(d *disk.Disk) []api.Block {
	var list []api.Block
	for i := range d.Size() {
		list = append(list, d.Sure(i))
	}
	return list
}

// rig is a store that is open.
type rig struct {
	t *testing.T
	d *disk.Disk
	s *State
	c api.Config
}

// opened opens a store; the disk's count is 0 then.
func opened(t *testing.T, d *disk.Disk, frames int) *rig {
	t.Helper()
	s, e := Open(d, frames)
	if e != api.OK || s == nil {
		t.Fatalf("Open = %v, %d", s, e)
	}
	d.Plan(nil, 0)
	return &rig{t: t, d: d, s: s, c: s.Master().Config}
}

// fresh is a new store that is open.
func fresh(t *testing.T, c api.Config, frames int) *rig {
	t.Helper()
	return opened(t, formatted(t, c), frames)
}

// again crashes, and opens.
func (r *rig) again(keep []bool, frames int) *rig {
	r.t.Helper()
	r.d.Crash(keep)
	return opened(r.t, r.d, frames)
}

func wantNoOpen(t *testing.T, name string, d *disk.Disk, frames int, want api.Errno) {
	t.Helper()
	if s, e := Open(d, frames); s != nil || e != want {
		t.Errorf("%s: Open = %v, %d, want nil, %d", name, s, e, want)
	}
}

func (r *rig) want(name string, got, x api.Errno) {
	r.t.Helper()
	want(r.t, name, got, x)
}

func (r *rig) install(no uint16, ts uint32, body api.Body) {
	r.t.Helper()
	if e := commit.Install(r.s.Base(), no, ts, body); e != api.OK {
		r.t.Fatalf("Install(%d, %d, ..) = %d", no, ts, e)
	}
}

func (r *rig) commit(ts uint32) {
	r.t.Helper()
	if e := r.s.Base().Commit(ts); e != api.OK {
		r.t.Fatalf("Commit(%d) = %d", ts, e)
	}
}

func (r *rig) write(id api.PageID) {
	r.t.Helper()
	if e := r.s.Base().Cache().Write(id); e != api.OK {
		r.t.Fatalf("Write(%v) = %d", id, e)
	}
}

func (r *rig) flush() {
	r.t.Helper()
	r.want("Flush", r.s.Base().Log().Flush(), api.OK)
}

func (r *rig) wantVersions(name string, no uint16, want ...api.Version) {
	r.t.Helper()
	if got, e := chain.Versions(r.s.Base().Cache(), no); e != api.OK || !slices.Equal(got, want) {
		r.t.Errorf("%s: the page %d has the versions %v, %d, want %v", name, no, times(got), e, times(want))
	}
}

func times(list []api.Version) []uint32 {
	var all []uint32
	for _, v := range list {
		all = append(all, v.Ts)
	}
	return all
}

// see is a page's payload.
func (r *rig) see(id api.PageID) api.Payload {
	r.t.Helper()
	p, e := r.s.Base().Cache().Fetch(id)
	if e != api.OK {
		r.t.Fatalf("%v can't be held: %d", id, e)
	}
	r.s.Base().Cache().Unpin(id)
	return p
}

func (r *rig) wantPage(name string, id api.PageID, want api.Payload) {
	r.t.Helper()
	if r.see(id) != want {
		r.t.Errorf("%s: %v isn't as it should be", name, id)
	}
}

func (r *rig) wantMaster(name string, want api.Master) {
	r.t.Helper()
	if got := r.s.Master(); got != want {
		r.t.Errorf("%s: the master is %+v, want %+v", name, got, want)
	}
}

func (r *rig) wantLive(name string, want int) {
	r.t.Helper()
	if got := r.s.Base().Room().Live(); got != want {
		r.t.Errorf("%s: %d records are live, want %d", name, got, want)
	}
}

// wantSettled fails, if something is left to do for a store that was just opened: a dirty page, a page that is held, a
// write that doesn't last, a block of the log that is needed, or a torn page.
func (r *rig) wantSettled(name string) {
	r.t.Helper()
	b := r.s.Base()
	if n := len(b.Cache().Dirty()); n > 0 {
		r.t.Errorf("%s: %d pages are dirty", name, n)
	}
	if r.d.Pending() != 0 {
		r.t.Errorf("%s: %d writes don't last", name, r.d.Pending())
	}
	if b.Log().Free() != r.c.Log || b.Log().Durable() != b.Log().End() {
		r.t.Errorf("%s: %d blocks of the log are free", name, b.Log().Free())
	}
	if m := r.s.Master(); m.LSN != b.Log().End() || m.Tail != b.Log().Tail() {
		r.t.Errorf("%s: the master is %+v, the log ends at %d, and its next block is %d", name, m, b.Log().End(), b.Log().Tail())
	}
	for i, id := range pagesOf(r.c) {
		if b.Cache().Pins(id) != 0 {
			r.t.Errorf("%s: %v is held", name, id)
		}
		if _, p, ok := seal.Open(r.d.Sure(2 + i)); !ok || p != r.see(id) || page.LSN(p) >= b.Log().Durable() && page.LSN(p) > 0 {
			r.t.Errorf("%s: %v isn't on the disk", name, id)
		}
	}
}

// masterIn is the master in one of both blocks, as it lasts.
func masterIn(d *disk.Disk, slot int) api.Master {
	m, _ := master.Unpack(d.Sure(slot))
	return m
}

// entries are what the log tells on a disk from the block first on, from a place on.
func entries(t *testing.T, d *disk.Disk, c api.Config, first uint32, at uint64) []api.Entry {
	t.Helper()
	chunks, e := log.Scan(d, 2+c.Pages+c.Undo, c.Log, first)
	want(t, "Scan", e, api.OK)
	from, stream, _, _ := ring.Join(first, chunks)
	items, _ := ring.Items(from, stream, at)
	var list []api.Entry
	for _, x := range items {
		r, e := rec.Decode(x.Bytes)
		want(t, "Decode", e, api.OK)
		list = append(list, api.Entry{LSN: x.LSN, Rec: r})
	}
	return list
}

// left is a store as a crash has left it: a master, and behind blank pages a log of texts.
type left struct {
	t *testing.T
	d *disk.Disk
	m api.Master
	l *log.Log
}

// leftOf is a store whose master stands in a block, and whose log has nothing yet; the first block of it will begin at a
// place of the stream.
func leftOf(t *testing.T, m api.Master, slot int, from uint64) *left {
	t.Helper()
	d := formatted(t, m.Config)
	want(t, "Store", master.Store(d, slot, m), api.OK)
	c := m.Config
	return &left{t: t, d: d, m: m, l: log.New(d, 2+c.Pages+c.Undo, c.Log, m.Epoch, nil, m.Tail, from)}
}

// plainMaster is one of a store that was opened twice.
func plainMaster() api.Master {
	return api.Master{Seq: 5, Epoch: 2, LSN: 1, Last: 2, Config: small()}
}

// text lays a text in the log; the answer is its place.
func (l *left) text(s string) uint64 {
	l.t.Helper()
	lsn, e := l.l.Append(s)
	want(l.t, "Append", e, api.OK)
	return lsn
}

// tell lays a record in the log; the answer is its place.
func (l *left) tell(r api.Rec) uint64 {
	l.t.Helper()
	s, e := rec.Encode(r)
	want(l.t, "Encode", e, api.OK)
	return l.text(s)
}

// page writes a page's payload to its block.
func (l *left) page(id api.PageID, p api.Payload) {
	l.t.Helper()
	i := slices.Index(pagesOf(l.m.Config), id)
	want(l.t, "Write", l.d.Write(2+i, seal.Seal(page.LSN(p), p)), api.OK)
}

// tear writes a page's block so that it is none.
func (l *left) tear(id api.PageID) {
	l.t.Helper()
	i := slices.Index(pagesOf(l.m.Config), id)
	want(l.t, "Write", l.d.Write(2+i, blockOf(i)), api.OK)
}

// open makes all last, and opens the store.
func (l *left) open(frames int) *rig {
	l.t.Helper()
	l.done()
	return opened(l.t, l.d, frames)
}

func (l *left) done() {
	l.t.Helper()
	want(l.t, "Flush", l.l.Flush(), api.OK)
	want(l.t, "Sync", l.d.Sync(), api.OK)
	l.d.Plan(nil, 0)
}

func committed(ts uint32) api.Rec { return api.Rec{Kind: api.RCommit, Ts: ts} }

// setTo is a record by which a blank data page has a version with a body of the number ts.
func setTo(no uint16, ts uint32, prev api.Ref) api.Rec {
	return api.Rec{Kind: api.RData, Page: data(no), Ts: ts, Prev: prev, Delta: delta.Make(api.Body{}, bodyOf(int(ts)))}
}

// imageOf is a record that tells all of a page.
func imageOf(id api.PageID, p api.Payload) api.Rec {
	return api.Rec{Kind: api.RImage, Page: id, Image: p}
}

// keptAs is a record by which a page's version of a Ts, with a body of noughts, is kept.
func keptAs(no uint16, slot uint8, of uint16, ts uint32, next api.Ref) api.Rec {
	o := api.Old{Live: true, Page: of, Ts: ts, Next: next, Delta: delta.Make(bodyOf(255), api.Body{})}
	return api.Rec{Kind: api.RAdd, Page: undo(no), Slot: slot, Old: o}
}

// failure is a plan of a disk by which one of its operations fails.
type failure struct {
	fails []int
	fuse  int
	want  api.Errno
}

func failures(k int) []failure {
	return []failure{{[]int{k}, 0, api.ErrIO}, {nil, k, api.ErrDown}}
}
