package vacuum

import (
	"math"
	"slices"
	"strings"
	"testing"

	"varve/api"
	"varve/base"
	"varve/chain"
	"varve/commit"
	"varve/disk"
	"varve/log"
	"varve/page"
	"varve/rec"
	"varve/ring"
	"varve/seal"
)

func data(no uint16) api.PageID { return api.PageID{No: no} }
func undo(no uint16) api.PageID { return api.PageID{Undo: true, No: no} }

// at is the place of a record.
func at(page uint16, slot uint8) api.Ref { return api.Ref{Page: page, Slot: slot} }

func version(ts uint32, body api.Body) api.Version { return api.Version{Ts: ts, Body: body} }

// bodyOf is a body that differs from that of another number below 256 at its beginning and its end.
func bodyOf(n int) api.Body {
	return api.Body{0: byte(n), 63: byte(n)}
}

// wholeOf is one that differs from that of another number at all places, so that an undo page has room for two.
func wholeOf(n int) api.Body {
	var b api.Body
	for i := range b {
		b[i] = byte(n)
	}
	return b
}

// pagesOf are all pages of a store, in the order of their blocks.
func pagesOf(f api.Config) []api.PageID {
	var list []api.PageID
	for i := range f.Pages {
		list = append(list, data(uint16(i)))
	}
	for i := range f.Undo {
		list = append(list, undo(uint16(i)))
	}
	return list
}

// rig is a store's parts.
type rig struct {
	t *testing.T
	d *disk.Disk
	b *base.Base
	f api.Config
}

// rigWith is a store on whose disk these pages are, and whose log begins at end.
func rigWith(t *testing.T, frames int, f api.Config, pages []api.Payload, end uint64) *rig {
	t.Helper()
	d := disk.New(2 + f.Pages + f.Undo + f.Log)
	for i, p := range pages {
		d.Write(2+i, seal.Seal(page.LSN(p), p))
	}
	d.Sync()
	d.Plan(nil, 0)
	b := base.New(d, f, frames, 1, nil, 0, end)
	if b == nil {
		t.Fatalf("there are no parts of %v with %d frames", f, frames)
	}
	return &rig{t: t, d: d, b: b, f: f}
}

// rigOf is a blank store.
func rigOf(t *testing.T, frames, pages, undo, blocks int) *rig {
	t.Helper()
	f := api.Config{Pages: pages, Undo: undo, Log: blocks, MaxTs: math.MaxUint32}
	var blank []api.Payload
	for _, id := range pagesOf(f) {
		blank = append(blank, page.Blank(id))
	}
	return rigWith(t, frames, f, blank, 1)
}

func (r *rig) want(name string, got, want api.Errno) {
	r.t.Helper()
	if got != want {
		r.t.Errorf("%s = %d, want %d", name, got, want)
	}
}

func (r *rig) install(no uint16, ts uint32, body api.Body) {
	r.t.Helper()
	if e := commit.Install(r.b, no, ts, body); e != api.OK {
		r.t.Fatalf("Install(%d, %d, ..) = %d", no, ts, e)
	}
}

// grow gives a page versions at these timestamps, with bodies by them.
func (r *rig) grow(no uint16, list ...uint32) {
	r.t.Helper()
	for _, ts := range list {
		r.install(no, ts, bodyOf(int(ts)))
	}
}

// grown are the versions that grow gives, of timestamps that fall.
func grown(list ...uint32) []api.Version {
	var all []api.Version
	for _, ts := range list {
		all = append(all, version(ts, bodyOf(int(ts))))
	}
	return all
}

func (r *rig) change(x api.Rec) {
	r.t.Helper()
	if e := r.b.Change(x); e != api.OK {
		r.t.Fatalf("Change(%+v) = %d", x, e)
	}
}

// stray adds a record that is in no chain.
func (r *rig) stray(no uint16, slot uint8, o api.Old) {
	r.t.Helper()
	o.Live = true
	r.change(api.Rec{Kind: api.RAdd, Page: undo(no), Slot: slot, Old: o})
}

func (r *rig) hold(list ...api.PageID) {
	r.t.Helper()
	for _, id := range list {
		if _, e := r.b.Cache().Fetch(id); e != api.OK {
			r.t.Fatalf("%v can't be held: %d", id, e)
		}
	}
}

func (r *rig) see(id api.PageID) api.Payload {
	r.t.Helper()
	p, e := r.b.Cache().Fetch(id)
	if e != api.OK {
		r.t.Fatalf("%v can't be held: %d", id, e)
	}
	r.b.Cache().Unpin(id)
	return p
}

// newest is what a data page holds, but for its LSN.
func (r *rig) newest(no uint16) api.Data {
	r.t.Helper()
	d, e := page.GetData(no, r.see(data(no)))
	r.want("GetData", e, api.OK)
	d.LSN = 0
	return d
}

// olds are the records of an undo page.
func (r *rig) olds(no uint16) []api.Old {
	r.t.Helper()
	u, e := page.GetUndo(no, r.see(undo(no)))
	r.want("GetUndo", e, api.OK)
	return u.Olds
}

// spare is the slot of an undo page that a further record takes.
func (r *rig) spare(no uint16) uint8 {
	r.t.Helper()
	return uint8(slices.IndexFunc(append(r.olds(no), api.Old{}), func(o api.Old) bool { return !o.Live }))
}

// all is what all pages hold.
func (r *rig) all() []api.Payload {
	r.t.Helper()
	var list []api.Payload
	for _, id := range pagesOf(r.f) {
		list = append(list, r.see(id))
	}
	return list
}

func (r *rig) wantHeld(name string, want ...api.PageID) {
	r.t.Helper()
	for _, id := range pagesOf(r.f) {
		n := 0
		if slices.Contains(want, id) {
			n = 1
		}
		if got := r.b.Cache().Pins(id); got != n {
			r.t.Errorf("%s: %v is held %d times, want %d", name, id, got, n)
		}
	}
}

func (r *rig) wantVersions(name string, no uint16, want ...api.Version) {
	r.t.Helper()
	if got, e := chain.Versions(r.b.Cache(), no); e != api.OK || !slices.Equal(got, want) {
		r.t.Errorf("%s: the page %d has the versions %v, %d, want %v", name, no, times(got), e, times(want))
	}
}

func times(list []api.Version) []uint32 {
	var all []uint32
	for _, v := range list {
		all = append(all, v.Ts)
	}
	return all
}

// live are the places of the live records that the pages hold.
func (r *rig) live() []api.Ref {
	r.t.Helper()
	var list []api.Ref
	for no := range uint16(r.f.Undo) {
		for slot, o := range r.olds(no) {
			if o.Live {
				list = append(list, at(no+1, uint8(slot)))
			}
		}
	}
	return list
}

// wantLive holds the places of the records that the room knows, and of those that the pages hold, against these.
func (r *rig) wantLive(name string, want ...api.Ref) {
	r.t.Helper()
	if got := r.b.Room().Refs(); !slices.Equal(got, want) || r.b.Room().Live() != len(want) {
		r.t.Errorf("%s: the room knows %v, want %v", name, got, want)
	}
	if got := r.live(); !slices.Equal(got, want) {
		r.t.Errorf("%s: live are %v, want %v", name, got, want)
	}
}

func (r *rig) wantCut(name string, no uint16, horizon uint32, want ...api.Ref) {
	r.t.Helper()
	if got, e := Cut(r.b, no, horizon); e != api.OK || !slices.Equal(got, want) {
		r.t.Errorf("%s: Cut(%d, %d) = %v, %d, want %v", name, no, horizon, got, e, want)
	}
}

func (r *rig) wantNoCut(name string, no uint16, horizon uint32, want api.Errno) {
	r.t.Helper()
	if got, e := Cut(r.b, no, horizon); e != want || len(got) != 0 {
		r.t.Errorf("%s: Cut(%d, %d) = %v, %d, want %d", name, no, horizon, got, e, want)
	}
}

func (r *rig) wantOrphans(name string, want ...api.Ref) {
	r.t.Helper()
	if got, e := Orphans(r.b); e != api.OK || !slices.Equal(got, want) {
		r.t.Errorf("%s: Orphans = %v, %d, want %v", name, got, e, want)
	}
}

func (r *rig) wantNoOrphans(name string, want api.Errno) {
	r.t.Helper()
	if got, e := Orphans(r.b); e != want || len(got) != 0 {
		r.t.Errorf("%s: Orphans = %v, %d, want %d", name, got, e, want)
	}
}

func (r *rig) wantOps(name string, want int) {
	r.t.Helper()
	if got := r.d.Ops(); got != want {
		r.t.Errorf("%s: %d operations, want %d", name, got, want)
	}
}

// still fails, if what do does lays something in the log, or changes a page or what the room knows.
func (r *rig) still(name string, do func()) {
	r.t.Helper()
	end, pages, refs := r.b.Log().End(), r.all(), r.b.Room().Refs()
	do()
	if r.b.Log().End() != end {
		r.t.Errorf("%s: something was laid", name)
	}
	r.d.Crash(nil)
	if !slices.Equal(r.all(), pages) || !slices.Equal(r.b.Room().Refs(), refs) {
		r.t.Errorf("%s: a page has changed", name)
	}
}

// entries are the records that the log tells on the disk.
func (r *rig) entries() []api.Entry {
	r.t.Helper()
	chunks, e := log.Scan(r.d, 2+r.f.Pages+r.f.Undo, r.f.Log, 0)
	r.want("Scan", e, api.OK)
	from, stream, _, _ := ring.Join(0, chunks)
	items, _ := ring.Items(from, stream, 1)
	var list []api.Entry
	for _, x := range items {
		one, e := rec.Decode(x.Bytes)
		r.want("Decode", e, api.OK)
		list = append(list, api.Entry{LSN: x.LSN, Rec: one})
	}
	return list
}

// laid fails, if what do does lays other records than these.
func (r *rig) laid(name string, do func(), want ...api.Rec) {
	r.t.Helper()
	end := r.b.Log().End()
	do()
	r.want("Flush", r.b.Log().Flush(), api.OK)
	var got []api.Rec
	for _, x := range r.entries() {
		if x.LSN >= end {
			got = append(got, x.Rec)
		}
	}
	if !slices.Equal(got, want) {
		r.t.Errorf("%s: the log tells %+v, want %+v", name, got, want)
	}
}

// The records of the changes that a vacuum makes.
func dataEnd(no uint16, ts uint32) api.Rec { return api.Rec{Kind: api.RData, Page: data(no), Ts: ts} }
func cutAt(x api.Ref) api.Rec {
	return api.Rec{Kind: api.RCut, Page: undo(x.Page - 1), Slot: x.Slot}
}
func freeAt(x api.Ref) api.Rec {
	return api.Rec{Kind: api.RFree, Page: undo(x.Page - 1), Slot: x.Slot}
}

// fill lays texts in the log till just so many bytes of its last block are left.
func (r *rig) fill(left int) {
	r.t.Helper()
	all := r.f.Log * api.LogRoom
	for all-int(r.b.Log().End()-1) > left {
		room := all - int(r.b.Log().End()-1) - left
		n := min(room-6, 300)
		if room > 306 && room-306 < 7 {
			n = 280
		}
		if _, e := r.b.Log().Append(strings.Repeat("x", n)); e != api.OK {
			r.t.Fatalf("Append of %d bytes = %d", n, e)
		}
	}
	if got := all - int(r.b.Log().End()-1); got != left {
		r.t.Fatalf("%d bytes are left, want %d", got, left)
	}
}

// frameLen is how many bytes of the log a record takes.
func frameLen(x api.Rec) int {
	text, _ := rec.Encode(x)
	return len(ring.Frame(text))
}

// failure is a plan of a disk by which one of its operations fails.
type failure struct {
	fails []int
	fuse  int
	want  api.Errno
}

func failures(k int) []failure {
	return []failure{{[]int{k}, 0, api.ErrIO}, {nil, k, api.ErrDown}}
}

// told is what chain tells of a page at a time.
type told struct {
	version api.Version
	err     api.Errno
}

// seen is what chain tells of all pages, at each of these times that is not below the horizon.
func (r *rig) seen(horizon uint32, when []uint32) []told {
	r.t.Helper()
	var list []told
	for no := range r.f.Pages {
		for _, ts := range when {
			if ts >= horizon {
				v, e := chain.At(r.b.Cache(), uint16(no), ts)
				list = append(list, told{v, e})
			}
		}
	}
	return list
}

// wantNeeded fails, if there is a version that can't be seen from the horizon on, or a record that tells none.
func (r *rig) wantNeeded(name string, horizon uint32) {
	r.t.Helper()
	n := 0
	for no := range r.f.Pages {
		list, e := chain.Versions(r.b.Cache(), uint16(no))
		r.want("Versions", e, api.OK)
		n += len(list) - 1
		for i, v := range list {
			if v.Ts <= horizon && i != len(list)-1 {
				r.t.Errorf("%s: from %d on the page %d has %v", name, horizon, no, times(list))
			}
		}
	}
	if r.b.Room().Live() != n || len(r.live()) != n {
		r.t.Errorf("%s: %d records are left, the room knows %d, needed are %d", name, len(r.live()), r.b.Room().Live(), n)
	}
}
