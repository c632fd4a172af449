package commit

import (
	"math"
	"math/rand"
	"slices"
	"strings"
	"testing"

	"varve/api"
	"varve/base"
	"varve/chain"
	"varve/delta"
	"varve/disk"
	"varve/log"
	"varve/page"
	"varve/rec"
	"varve/ring"
	"varve/seal"
)

func data(no uint16) api.PageID { return api.PageID{No: no} }
func undo(no uint16) api.PageID { return api.PageID{Undo: true, No: no} }

// pagesOf are all pages of a store, in the order of their blocks.
func pagesOf(f api.Config) []api.PageID {
	var list []api.PageID
	for i := range f.Pages {
		list = append(list, data(uint16(i)))
	}
	for i := range f.Undo {
		list = append(list, undo(uint16(i)))
	}
	return list
}

// rig is a blank store's parts.
type rig struct {
	t *testing.T
	d *disk.Disk
	b *base.Base
	f api.Config
}

func rigOf(t *testing.T, frames, pages, undo, blocks int) *rig {
	t.Helper()
	f := api.Config{Pages: pages, Undo: undo, Log: blocks, MaxTs: math.MaxUint32}
	d := disk.New(2 + pages + undo + blocks)
	for i, id := range pagesOf(f) {
		d.Write(2+i, seal.Seal(0, page.Blank(id)))
	}
	d.Sync()
	d.Plan(nil, 0)
	b := base.New(d, f, frames, 1, nil, 0, 1)
	if b == nil {
		t.Fatalf("there are no parts of %v with %d frames", f, frames)
	}
	return &rig{t: t, d: d, b: b, f: f}
}

// bodyOf is a body that differs from that of another number below 256 at its beginning and its end.
func bodyOf(n int) api.Body {
	return api.Body{0: byte(n), 63: byte(n)}
}

// wholeOf is one that differs from that of another number at all places.
func wholeOf(n int) api.Body {
	var b api.Body
	for i := range b {
		b[i] = byte(n)
	}
	return b
}

func (r *rig) want(name string, got, want api.Errno) {
	r.t.Helper()
	if got != want {
		r.t.Errorf("%s = %d, want %d", name, got, want)
	}
}

func (r *rig) install(no uint16, ts uint32, body api.Body) {
	r.t.Helper()
	if e := Install(r.b, no, ts, body); e != api.OK {
		r.t.Fatalf("Install(%d, %d, ..) = %d", no, ts, e)
	}
}

func (r *rig) pop(no uint16) {
	r.t.Helper()
	if e := Pop(r.b, no); e != api.OK {
		r.t.Fatalf("Pop(%d) = %d", no, e)
	}
}

func (r *rig) hold(list ...api.PageID) {
	r.t.Helper()
	for _, id := range list {
		if _, e := r.b.Cache().Fetch(id); e != api.OK {
			r.t.Fatalf("%v can't be held: %d", id, e)
		}
	}
}

func (r *rig) see(id api.PageID) api.Payload {
	r.t.Helper()
	r.hold(id)
	p, _ := r.b.Cache().Fetch(id)
	r.b.Cache().Unpin(id)
	r.b.Cache().Unpin(id)
	return p
}

// newest is what a data page holds, but for its LSN.
func (r *rig) newest(no uint16) api.Data {
	r.t.Helper()
	d, e := page.GetData(no, r.see(data(no)))
	r.want("GetData", e, api.OK)
	d.LSN = 0
	return d
}

// olds are the records of an undo page.
func (r *rig) olds(no uint16) []api.Old {
	r.t.Helper()
	u, e := page.GetUndo(no, r.see(undo(no)))
	r.want("GetUndo", e, api.OK)
	return u.Olds
}

func (r *rig) wantHeld(name string, want ...api.PageID) {
	r.t.Helper()
	for _, id := range pagesOf(r.f) {
		n := 0
		if slices.Contains(want, id) {
			n = 1
		}
		if got := r.b.Cache().Pins(id); got != n {
			r.t.Errorf("%s: %v is held %d times, want %d", name, id, got, n)
		}
	}
}

func (r *rig) wantVersions(name string, no uint16, want ...api.Version) {
	r.t.Helper()
	if got, e := chain.Versions(r.b.Cache(), no); e != api.OK || !slices.Equal(got, want) {
		r.t.Errorf("%s: the page %d has the versions %v, %d, want %v", name, no, got, e, want)
	}
}

// wantLive holds the places of the records that the room knows, and of those that the pages hold, against these.
func (r *rig) wantLive(name string, want ...api.Ref) {
	r.t.Helper()
	if got := r.b.Room().Refs(); !slices.Equal(got, want) || r.b.Room().Live() != len(want) {
		r.t.Errorf("%s: the room knows %v, want %v", name, got, want)
	}
	var there []api.Ref
	for no := range uint16(r.f.Undo) {
		for at, o := range r.olds(no) {
			if o.Live {
				there = append(there, api.Ref{Page: no + 1, Slot: uint8(at)})
			}
		}
	}
	if !slices.Equal(there, want) {
		r.t.Errorf("%s: live are %v, want %v", name, there, want)
	}
}

func (r *rig) wantOps(name string, want int) {
	r.t.Helper()
	if got := r.d.Ops(); got != want {
		r.t.Errorf("%s: %d operations, want %d", name, got, want)
	}
}

// told are the records that were laid.
func (r *rig) told() []api.Rec {
	r.t.Helper()
	r.want("Flush", r.b.Log().Flush(), api.OK)
	chunks, e := log.Scan(r.d, 2+r.f.Pages+r.f.Undo, r.f.Log, 0)
	r.want("Scan", e, api.OK)
	at, stream, _, _ := ring.Join(0, chunks)
	items, _ := ring.Items(at, stream, 1)
	var list []api.Rec
	for _, x := range items {
		one, e := rec.Decode(x.Bytes)
		r.want("Decode", e, api.OK)
		list = append(list, one)
	}
	return list
}

// wantTold holds the last records that were laid against these.
func (r *rig) wantTold(name string, want ...api.Rec) {
	r.t.Helper()
	got := r.told()
	if len(got) < len(want) {
		r.t.Fatalf("%s: the log tells just %d records", name, len(got))
	}
	got = got[len(got)-len(want):]
	for i, x := range want {
		if got[i] != x {
			r.t.Errorf("%s: the log tells %+v, want %+v", name, got[i], x)
		}
	}
}

// touch makes pages dirty, so that what is done with them is laid as the record itself.
func (r *rig) touch(pages []uint16, undos []uint16) {
	r.t.Helper()
	for _, no := range pages {
		d := r.newest(no)
		r.want("Change", r.b.Change(api.Rec{Kind: api.RData, Page: data(no), Ts: d.Ts, Prev: d.Prev}), api.OK)
	}
	for _, no := range undos {
		at := uint8(slices.IndexFunc(append(r.olds(no), api.Old{}), func(o api.Old) bool { return !o.Live }))
		r.want("Change", r.b.Change(api.Rec{Kind: api.RAdd, Page: undo(no), Slot: at, Old: api.Old{Live: true}}), api.OK)
		r.want("Change", r.b.Change(api.Rec{Kind: api.RFree, Page: undo(no), Slot: at}), api.OK)
	}
}

func version(ts uint32, body api.Body) api.Version { return api.Version{Ts: ts, Body: body} }

// failure is a plan of a disk by which one of its operations fails.
type failure struct {
	fails []int
	fuse  int
	want  api.Errno
}

func failures(k int) []failure {
	return []failure{{[]int{k}, 0, api.ErrIO}, {nil, k, api.ErrDown}}
}

func TestExample(t *testing.T) { // P21.1, P21.2
	r := rigOf(t, 4, 3, 3, 70)
	r.want("Install", Install(r.b, 1, 5, bodyOf(7)), api.OK)
	r.wantVersions("installed", 1, version(5, bodyOf(7)), api.Version{})
	r.wantLive("installed", api.Ref{Page: 1})
	r.want("Install again", Install(r.b, 1, 5, bodyOf(8)), api.ErrArg)
	r.wantVersions("again", 1, version(5, bodyOf(7)), api.Version{})
	r.want("Pop", Pop(r.b, 1), api.OK)
	r.wantVersions("popped", 1, api.Version{})
	r.wantLive("popped")
	r.want("Pop of one version", Pop(r.b, 1), api.ErrArg)
}

func TestInstallRecords(t *testing.T) { // P21.1: what is laid, record by record
	r := rigOf(t, 8, 3, 3, 64)
	r.install(1, 3, bodyOf(1))
	r.install(2, 4, bodyOf(2)) // takes the slot 1
	r.touch([]uint16{1}, []uint16{0})
	old := api.Old{Live: true, Page: 1, Ts: 3, Next: api.Ref{Page: 1}, Delta: "\x00\x01\x01\x3f\x01\x01"}
	r.install(1, 9, bodyOf(200))
	r.wantTold("Install",
		api.Rec{Kind: api.RAdd, Page: undo(0), Slot: 2, Old: old},
		api.Rec{Kind: api.RData, Page: data(1), Ts: 9, Prev: api.Ref{Page: 1, Slot: 2}, Delta: "\x00\x01\xc8\x3f\x01\xc8"})
	if got := r.newest(1); got != (api.Data{Ts: 9, Prev: api.Ref{Page: 1, Slot: 2}, Body: bodyOf(200)}) {
		t.Errorf("the page is %v", got)
	}
	if got := r.olds(0); len(got) != 3 || got[2] != old {
		t.Errorf("the undo page is %v", got)
	}
	r.wantHeld("Install")
	if r.b.Log().Durable() == 1 {
		t.Error("the log was never flushed")
	}
}

func TestInstallFlushesNothing(t *testing.T) { // P21.1: nothing lasts by it
	r := rigOf(t, 8, 3, 3, 64)
	r.install(1, 3, bodyOf(1))
	r.wantOps("two pages are read", 2)
	r.install(1, 4, bodyOf(2))
	r.pop(1)
	r.wantOps("they are resident", 2)
	if r.b.Log().Durable() != 1 {
		t.Error("the log was flushed")
	}
}

func TestInstallTs(t *testing.T) { // P21.1
	r := rigOf(t, 4, 3, 3, 64)
	r.want("0 over 0", Install(r.b, 1, 0, bodyOf(1)), api.ErrArg)
	r.install(1, 10, bodyOf(1))
	end := r.b.Log().End()
	for _, ts := range []uint32{0, 1, 9, 10} {
		r.want("not above 10", Install(r.b, 1, ts, bodyOf(2)), api.ErrArg)
	}
	if r.b.Log().End() != end {
		t.Error("something was laid")
	}
	r.wantLive("not above", api.Ref{Page: 1})
	r.install(1, 11, bodyOf(2))
	r.install(2, 1, bodyOf(3)) // another page's versions are others
	r.install(1, 1<<31, bodyOf(4))
	r.install(1, math.MaxUint32, bodyOf(5))
	r.want("nothing is above the greatest", Install(r.b, 1, math.MaxUint32, bodyOf(6)), api.ErrArg)
	r.wantVersions("all", 1, version(math.MaxUint32, bodyOf(5)), version(1<<31, bodyOf(4)), version(11, bodyOf(2)), version(10, bodyOf(1)), api.Version{})
	r.wantVersions("the other", 2, version(1, bodyOf(3)), api.Version{})
	r.wantHeld("timestamps")
}

func TestNoPage(t *testing.T) { // P21.1, P21.2
	r := rigOf(t, 4, 3, 5, 64)
	for _, no := range []uint16{3, 4, 5, 8, 256, 257, 1 << 15, math.MaxUint16} {
		r.want("Install", Install(r.b, no, 5, bodyOf(1)), api.ErrArg)
		r.want("Install", Install(r.b, no, 0, bodyOf(1)), api.ErrArg)
		r.want("Pop", Pop(r.b, no), api.ErrArg)
	}
	for _, no := range []uint16{6, 7, 257, math.MaxUint16} {
		r.want("Free", Free(r.b, api.Ref{Page: no}), api.ErrArg)
	}
	r.wantOps("no page", 0)
	if r.b.Log().End() != 1 {
		t.Error("something was laid")
	}
}

func TestNil(t *testing.T) { // P21.1, P21.2
	for _, no := range []uint16{0, 1, math.MaxUint16} {
		for _, ts := range []uint32{0, 1, math.MaxUint32} {
			if e := Install(nil, no, ts, bodyOf(1)); e != api.ErrArg {
				t.Errorf("Install = %d", e)
			}
		}
		if e := Pop(nil, no); e != api.ErrArg {
			t.Errorf("Pop = %d", e)
		}
		if e := Free(nil, api.Ref{Page: no, Slot: 3}); e != api.ErrArg {
			t.Errorf("Free = %d", e)
		}
	}
}

func TestWithoutPower(t *testing.T) { // P21.1, P21.2
	r := rigOf(t, 4, 3, 3, 64)
	r.d.Plan(nil, 1)
	r.d.Sync()
	r.want("Install", Install(r.b, 1, 5, bodyOf(1)), api.ErrDown)
	r.want("Pop", Pop(r.b, 1), api.ErrDown)
	r.want("Free", Free(r.b, api.Ref{Page: 1}), api.ErrDown)
	r.want("Free of no page", Free(r.b, api.Ref{}), api.ErrArg)
	r.want("Install of no page", Install(r.b, 3, 5, bodyOf(1)), api.ErrArg)
	r.d.Crash(nil)
	r.install(1, 5, bodyOf(1))
}

func TestDeltas(t *testing.T) { // P21.1: of no bytes, of the greatest length, and between
	r := rigOf(t, 4, 2, 3, 64)
	r.install(1, 1, api.Body{}) // the same body
	if o := r.olds(0); len(o) != 1 || o[0] != (api.Old{Live: true, Page: 1}) {
		t.Errorf("of the same body the record is %v", o)
	}
	r.install(1, 2, wholeOf(7))
	if o := r.olds(0); len(o) != 2 || o[1] != (api.Old{Live: true, Page: 1, Ts: 1, Next: api.Ref{Page: 1}, Delta: "\x00\x40" + strings.Repeat("\x00", 64)}) {
		t.Errorf("of another one it is %v", o)
	}
	r.install(1, 3, wholeOf(7))
	r.install(1, 4, wholeOf(255))
	half := wholeOf(255)
	for i := 0; i < 64; i += 4 {
		half[i] = 1
	}
	r.install(1, 5, half)
	r.wantVersions("deltas", 1, version(5, half), version(4, wholeOf(255)), version(3, wholeOf(7)), version(2, wholeOf(7)), version(1, api.Body{}), api.Version{})
	for i := range 5 {
		r.pop(1)
		r.wantVersions("popped", 1, []api.Version{version(5, half), version(4, wholeOf(255)), version(3, wholeOf(7)), version(2, wholeOf(7)), version(1, api.Body{}), {}}[i+1:]...)
	}
	r.wantLive("all popped")
}

func TestInstallPlaces(t *testing.T) { // P21.1: where the room finds a place, in the slot that is the first one free
	r := rigOf(t, 8, 4, 3, 64)
	for i := range 6 {
		r.install(uint16(i%4), uint32(i+1), wholeOf(i+1)) // two of 66 bytes to a page
	}
	r.wantLive("three pages", api.Ref{Page: 1}, api.Ref{Page: 1, Slot: 1}, api.Ref{Page: 2}, api.Ref{Page: 2, Slot: 1}, api.Ref{Page: 3}, api.Ref{Page: 3, Slot: 1})
	r.pop(0) // Ts 5, the slot 0 of the page 3
	r.wantLive("one is gone", api.Ref{Page: 1}, api.Ref{Page: 1, Slot: 1}, api.Ref{Page: 2}, api.Ref{Page: 2, Slot: 1}, api.Ref{Page: 3, Slot: 1})
	r.install(3, 7, wholeOf(77))
	if got := r.newest(3).Prev; got != (api.Ref{Page: 3}) {
		t.Errorf("the record is at %v", got)
	}
	r.install(3, 8, wholeOf(77)) // the page that was found last
	if got := r.newest(3).Prev; got != (api.Ref{Page: 3, Slot: 2}) {
		t.Errorf("the record is at %v", got)
	}
}

func TestInstallFull(t *testing.T) { // P21.1: a room that is full
	r := rigOf(t, 8, 4, 2, 64)
	for i := range 4 {
		r.install(uint16(i), 1, wholeOf(i+1)) // two to a page, 54 bytes are left of each
	}
	end, live := r.b.Log().End(), r.b.Room().Refs()
	r.want("66 bytes", Install(r.b, 1, 2, wholeOf(99)), api.ErrFull)
	forty3, forty4 := wholeOf(2), wholeOf(2)
	for i := range 42 {
		forty4[i] = 9
	}
	for i := range 41 {
		forty3[i] = 9
	}
	r.want("44 bytes", Install(r.b, 1, 2, forty4), api.ErrFull)
	if r.b.Log().End() != end {
		t.Error("something was laid")
	}
	r.wantLive("full", live...)
	r.wantVersions("full", 1, version(1, wholeOf(2)), api.Version{})
	r.want("ErrArg is named first", Install(r.b, 1, 1, wholeOf(99)), api.ErrArg)
	r.install(1, 2, forty3)
	r.install(2, 2, wholeOf(3))
	r.want("66 bytes", Install(r.b, 3, 2, wholeOf(99)), api.ErrFull)
	r.pop(0)
	r.install(3, 2, wholeOf(99))
	if got := r.newest(3).Prev; got != (api.Ref{Page: 1}) {
		t.Errorf("the record is at %v", got)
	}
	r.wantHeld("full")
}

func TestInstallSlotsFull(t *testing.T) { // P21.1: 15 records, whatever their length
	r := rigOf(t, 8, 1, 2, 64)
	for i := range 30 {
		r.install(0, uint32(i+1), api.Body{})
	}
	r.want("Install", Install(r.b, 0, 31, api.Body{}), api.ErrFull)
	for range 30 {
		r.pop(0)
	}
	r.want("Pop", Pop(r.b, 0), api.ErrArg)
	r.wantLive("all popped")
}

func TestInstallNotLearnt(t *testing.T) { // P21.1: an error of the first Change, as the room is wrong
	r := rigOf(t, 8, 3, 2, 64)
	r.install(1, 1, wholeOf(1))
	r.install(1, 2, wholeOf(2))
	r.b.Room().Note(0, api.Undo{})
	end := r.b.Log().End()
	r.want("another slot", Install(r.b, 1, 3, bodyOf(3)), api.ErrForm)
	if r.b.Log().End() != end {
		t.Error("something was laid")
	}
	r.wantVersions("not learnt", 1, version(2, wholeOf(2)), version(1, wholeOf(1)), api.Version{})
	r.want("Learn", r.b.Learn(), api.OK)
	r.install(1, 3, bodyOf(3))
	if got := r.newest(1).Prev; got != (api.Ref{Page: 2}) {
		t.Errorf("the record is at %v", got)
	}
	r.wantHeld("not learnt")
}

// fill lays commits in the log, and pieces of it, till no more than so many bytes of its last block are left.
func (r *rig) fill(left int) {
	r.t.Helper()
	all := r.f.Log * api.LogRoom
	for all-int(r.b.Log().End()-1) > left {
		room := all - int(r.b.Log().End()-1) - left
		n := min(room-6, 300)
		if room > 306 && room-306 < 7 {
			n = 280
		}
		if _, e := r.b.Log().Append(strings.Repeat("x", n)); e != api.OK {
			r.t.Fatalf("Append of %d bytes = %d", n, e)
		}
	}
	if got := all - int(r.b.Log().End()-1); got != left {
		r.t.Fatalf("%d bytes are left, want %d", got, left)
	}
}

// frameLen is how many bytes of the log a record takes.
func frameLen(x api.Rec) int {
	text, _ := rec.Encode(x)
	return len(ring.Frame(text))
}

func TestInstallLogFull(t *testing.T) { // P21.1, P21.3: of the log there is room for none, the first, or both of the changes
	body := bodyOf(9)
	add := frameLen(api.Rec{Kind: api.RAdd, Page: undo(0), Old: api.Old{Live: true, Delta: delta.Make(body, bodyOf(4))}})
	set := frameLen(api.Rec{Kind: api.RData, Page: data(1), Delta: delta.Make(body, bodyOf(4))})
	gone := frameLen(api.Rec{Kind: api.RFree, Page: undo(0)})
	if set <= gone {
		t.Fatal("an RFree is no shorter than an RData")
	}
	for _, c := range []struct {
		left  int
		want  api.Errno
		live  int // records
		spent int // bytes of the log
	}{
		{0, api.ErrFull, 1, 0},
		{add - 1, api.ErrFull, 1, 0},
		{add, api.ErrFull, 2, add}, // it can't be freed again
		{add + gone - 1, api.ErrFull, 2, add},
		{add + gone, api.ErrFull, 1, add + gone},
		{add + set - 1, api.ErrFull, 1, add + gone},
		{add + set, api.OK, 2, add + set},
		{add + set + 1, api.OK, 2, add + set},
	} {
		r := rigOf(t, 8, 3, 2, 6)
		r.install(1, 3, bodyOf(4))
		r.fill(c.left)
		end := r.b.Log().End()
		r.want("Install", Install(r.b, 1, 5, body), c.want)
		if got := int(r.b.Log().End() - end); got != c.spent {
			t.Errorf("of %d bytes that are left %d were laid, want %d", c.left, got, c.spent)
		}
		live := []api.Ref{{Page: 1}, {Page: 1, Slot: 1}}[:c.live]
		r.wantLive("a full log", live...)
		versions := []api.Version{version(3, bodyOf(4)), {}}
		if c.want == api.OK {
			versions = append([]api.Version{version(5, body)}, versions...)
		}
		r.wantVersions("a full log", 1, versions...)
		r.wantHeld("a full log")
	}
}

func TestInstallFreedAgain(t *testing.T) { // P21.1: what is laid where the second change is refused
	r := rigOf(t, 8, 3, 2, 6)
	r.install(1, 3, bodyOf(4))
	old := api.Old{Live: true, Page: 1, Ts: 3, Next: api.Ref{Page: 1}, Delta: delta.Make(wholeOf(8), bodyOf(4))}
	n := frameLen(api.Rec{Kind: api.RAdd, Page: undo(0), Old: old})
	r.fill(n + 10)
	r.want("Install", Install(r.b, 1, 5, wholeOf(8)), api.ErrFull)
	r.want("Flush", r.b.Log().Flush(), api.OK)
	chunks, _ := log.Scan(r.d, 7, 6, 0)
	at, stream, _, _ := ring.Join(0, chunks)
	items, _ := ring.Items(at, stream, r.b.Log().End()-uint64(n+10))
	want := []api.Rec{{Kind: api.RAdd, Page: undo(0), Slot: 1, Old: old}, {Kind: api.RFree, Page: undo(0), Slot: 1}}
	if len(items) != 2 {
		t.Fatalf("%d records", len(items))
	}
	for i, x := range items {
		if got, e := rec.Decode(x.Bytes); e != api.OK || got != want[i] {
			t.Errorf("the log tells %+v, want %+v", got, want[i])
		}
	}
}

// oneFrame is a store in which three of four frames are held.
func oneFrame(t *testing.T) (*rig, []api.PageID) {
	t.Helper()
	r := rigOf(t, 4, 6, 3, 64)
	held := []api.PageID{data(3), data(4), data(5)}
	r.hold(held...)
	r.d.Plan(nil, 0)
	return r, held
}

func TestInstallOneFrame(t *testing.T) { // P21.1: no page is held while another one is wanted
	r, held := oneFrame(t)
	r.install(1, 1, bodyOf(1))
	r.wantOps("three reads, the log flushed, a page written", 7)
	r.install(2, 1, bodyOf(2))
	r.install(1, 2, bodyOf(3))
	r.wantVersions("one frame", 1, version(2, bodyOf(3)), version(1, bodyOf(1)), api.Version{})
	r.pop(1)
	r.pop(2)
	r.wantVersions("popped", 1, version(1, bodyOf(1)), api.Version{})
	r.wantVersions("popped", 2, api.Version{})
	r.wantHeld("one frame", held...)
	r.wantLive("one frame", api.Ref{Page: 1})
}

func TestNoFrame(t *testing.T) { // P21.1, P21.2
	r, held := oneFrame(t)
	r.install(1, 1, bodyOf(1))
	r.hold(data(1))
	held = append(held, data(1))
	end := r.b.Log().End()
	r.want("Install of a page that isn't resident", Install(r.b, 2, 5, bodyOf(1)), api.ErrNoFrame)
	r.want("Install whose record's page isn't", Install(r.b, 1, 5, bodyOf(2)), api.ErrNoFrame)
	r.want("Pop of a page that isn't resident", Pop(r.b, 2), api.ErrNoFrame)
	r.want("Pop whose record's page isn't", Pop(r.b, 1), api.ErrNoFrame)
	r.want("Free", Free(r.b, api.Ref{Page: 1}), api.ErrNoFrame)
	if r.b.Log().End() != end {
		t.Error("something was laid")
	}
	r.wantHeld("no frame", held...)
	r.b.Cache().Unpin(data(1))
	r.wantVersions("no frame", 1, version(1, bodyOf(1)), api.Version{})
	r.wantLive("no frame", api.Ref{Page: 1})
}

func TestInstallFails(t *testing.T) { // P21.1, P21.3: at each operation
	for k := 1; k <= 7; k++ {
		for _, plan := range failures(k) {
			r, held := oneFrame(t)
			r.d.Plan(plan.fails, plan.fuse)
			r.want("Install", Install(r.b, 1, 5, bodyOf(1)), plan.want)
			r.wantOps("a failure", k)
			r.wantHeld("a failure", held...)
			if laid := r.b.Log().End() > 1; laid != (k > 2) {
				t.Errorf("behind a failure at %d something was laid: %v", k, laid)
			}
			r.d.Crash(nil)
			r.wantVersions("a failure", 1, api.Version{})
			r.wantLive("a failure")
			if k > 2 && k < 7 { // the undo page was dirty still
				list := r.told()
				if len(list) != 2 || list[0].Kind != api.RImage || list[1] != (api.Rec{Kind: api.RFree, Page: undo(0)}) {
					t.Errorf("behind a failure at %d the log tells %d records", k, len(list))
				}
			}
			r.install(1, 5, bodyOf(1))
			r.wantVersions("again", 1, version(5, bodyOf(1)), api.Version{})
			r.wantLive("again", api.Ref{Page: 1})
			r.wantHeld("again", held...)
		}
	}
}

func TestInstallNotFreed(t *testing.T) { // P21.1: the answer is the error of the second change, whatever the freeing is refused for
	for _, plan := range failures(3) {
		r := rigOf(t, 4, 6, 3, 6)
		r.hold(data(3), data(4), data(5))
		old := api.Old{Live: true, Page: 1, Delta: delta.Make(bodyOf(1), api.Body{})}
		image, _ := page.PutUndo(0, api.Undo{LSN: 6*api.LogRoom - 100, Olds: []api.Old{old}})
		r.fill(frameLen(api.Rec{Kind: api.RImage, Page: undo(0), Image: image}) + 9) // an RFree has 10 bytes
		r.d.Plan(plan.fails, plan.fuse)
		r.want("Install", Install(r.b, 1, 5, bodyOf(1)), plan.want)
		r.wantOps("a failure", 3)
		r.d.Crash(nil)
		r.wantLive("a full log", api.Ref{Page: 1})
		r.wantVersions("a full log", 1, api.Version{})
	}
}

func TestPop(t *testing.T) { // P21.2: a page with one version, with two and with more
	r := rigOf(t, 8, 3, 3, 64)
	r.want("Pop of one", Pop(r.b, 1), api.ErrArg)
	if r.b.Log().End() != 1 {
		t.Error("something was laid")
	}
	var all []api.Version
	for i := range 9 {
		all = append([]api.Version{version(uint32(10*i), bodyOf(i))}, all...)
		if i > 0 {
			r.install(1, uint32(10*i), bodyOf(i))
		}
	}
	r.wantVersions("nine", 1, all...)
	for i := range 8 {
		r.pop(1)
		r.wantVersions("popped", 1, all[i+1:]...)
		if n := r.b.Room().Live(); n != 7-i {
			t.Errorf("%d records, want %d", n, 7-i)
		}
		r.wantHeld("popped")
	}
	r.want("Pop of one", Pop(r.b, 1), api.ErrArg)
	if r.newest(1) != (api.Data{}) {
		t.Errorf("the page is %v", r.newest(1))
	}
}

func TestPopRecords(t *testing.T) { // P21.2: what is laid, record by record
	r := rigOf(t, 8, 3, 3, 64)
	r.install(2, 4, bodyOf(2))
	r.install(1, 3, bodyOf(1))
	r.install(1, 9, bodyOf(200))
	r.pop(1)
	r.wantTold("Pop",
		api.Rec{Kind: api.RData, Page: data(1), Ts: 3, Prev: api.Ref{Page: 1, Slot: 1}, Delta: "\x00\x01\x01\x3f\x01\x01"},
		api.Rec{Kind: api.RFree, Page: undo(0), Slot: 2})
	r.pop(1)
	r.wantTold("Pop",
		api.Rec{Kind: api.RData, Page: data(1), Delta: "\x00\x01\x00\x3f\x01\x00"},
		api.Rec{Kind: api.RFree, Page: undo(0), Slot: 1})
	r.wantVersions("another page", 2, version(4, bodyOf(2)), api.Version{})
}

func TestPopDelta(t *testing.T) { // P21.2: the Delta makes the Body of the page as it is, whatever bytes the record has
	r := rigOf(t, 8, 3, 3, 64)
	r.install(1, 3, bodyOf(1))
	long := "\x00\x40" + strings.Repeat("\x00", 64)
	r.want("Free", Free(r.b, api.Ref{Page: 1}), api.OK)
	r.want("Change", r.b.Change(api.Rec{Kind: api.RAdd, Page: undo(0), Old: api.Old{Live: true, Page: 1, Delta: long}}), api.OK)
	r.pop(1)
	r.wantTold("Pop",
		api.Rec{Kind: api.RData, Page: data(1), Delta: "\x00\x01\x00\x3f\x01\x00"},
		api.Rec{Kind: api.RFree, Page: undo(0)})
	r.wantVersions("popped", 1, api.Version{})
}

func TestPopBroken(t *testing.T) { // P21.2: errors of Step
	good := api.Old{Live: true, Page: 1, Ts: 2, Delta: "\x00\x01a"}
	for name, c := range map[string]struct {
		prev api.Ref
		old  func(o *api.Old)
	}{
		"no such undo page":   {api.Ref{Page: 4}, func(*api.Old) {}},
		"no such slot":        {api.Ref{Page: 1, Slot: 1}, func(*api.Old) {}},
		"no record":           {api.Ref{Page: 2}, func(*api.Old) {}},
		"another page's":      {api.Ref{Page: 1}, func(o *api.Old) { o.Page = 2 }},
		"no older":            {api.Ref{Page: 1}, func(o *api.Old) { o.Ts = 5 }},
		"newer":               {api.Ref{Page: 1}, func(o *api.Old) { o.Ts = 6 }},
		"a Delta that's none": {api.Ref{Page: 1}, func(o *api.Old) { o.Delta = "a" }},
	} {
		r := rigOf(t, 8, 3, 3, 64)
		o := good
		c.old(&o)
		r.want("Change", r.b.Change(api.Rec{Kind: api.RAdd, Page: undo(0), Old: o}), api.OK)
		r.want("Change", r.b.Change(api.Rec{Kind: api.RData, Page: data(1), Ts: 5, Prev: c.prev}), api.OK)
		end, before := r.b.Log().End(), r.newest(1)
		r.want(name, Pop(r.b, 1), api.ErrForm)
		if r.b.Log().End() != end || r.newest(1) != before || r.b.Room().Live() != 1 {
			t.Errorf("%s: something has changed", name)
		}
		r.wantHeld(name)
	}
}

// twoVersions is a store in which three of four frames are held, and of the page 1, which has two versions, nothing is resident.
func twoVersions(t *testing.T) (*rig, []api.PageID) {
	t.Helper()
	r, held := oneFrame(t)
	r.install(1, 5, bodyOf(1))
	r.see(data(0))
	if r.b.Cache().Resident(data(1)) || r.b.Cache().Resident(undo(0)) || len(r.b.Cache().Dirty()) != 0 {
		t.Fatal("the pages have stayed")
	}
	r.d.Plan(nil, 0)
	return r, held
}

func TestPopFails(t *testing.T) { // P21.2, P21.3: at each operation
	r, _ := twoVersions(t)
	r.pop(1)
	// A read for Newest, for Step, for the change; then, for the freeing, the log's write and sync, the page's, and a read.
	r.wantOps("Pop", 8)
	for k := 1; k <= 8; k++ {
		for _, plan := range failures(k) {
			r, held := twoVersions(t)
			r.d.Plan(plan.fails, plan.fuse)
			want, live := plan.want, api.Ref{Page: 1}
			versions := []api.Version{version(5, bodyOf(1)), {}}
			if k > 3 { // only the freeing fails
				want, versions = api.OK, versions[1:]
			}
			r.want("Pop", Pop(r.b, 1), want)
			r.wantOps("a failure", k)
			r.wantHeld("a failure", held...)
			r.d.Crash(nil)
			r.wantVersions("a failure", 1, versions...)
			r.wantLive("a failure", live)
			if k > 3 {
				r.want("Pop of one", Pop(r.b, 1), api.ErrArg)
				r.want("Free", Free(r.b, live), api.OK)
			} else {
				r.pop(1)
			}
			r.wantVersions("again", 1, api.Version{})
			r.wantLive("again")
		}
	}
}

func TestPopLogFull(t *testing.T) { // P21.2: of the log there is room for none, the first, or both of the changes
	set := frameLen(api.Rec{Kind: api.RData, Page: data(1), Delta: delta.Make(bodyOf(1), api.Body{})})
	gone := frameLen(api.Rec{Kind: api.RFree, Page: undo(0)})
	for _, c := range []struct {
		left  int
		want  api.Errno
		live  int
		spent int
	}{
		{0, api.ErrFull, 1, 0},
		{set - 1, api.ErrFull, 1, 0},
		{set, api.OK, 1, set},
		{set + gone - 1, api.OK, 1, set},
		{set + gone, api.OK, 0, set + gone},
	} {
		r := rigOf(t, 8, 3, 2, 6)
		r.install(1, 3, bodyOf(1))
		r.fill(c.left)
		end := r.b.Log().End()
		r.want("Pop", Pop(r.b, 1), c.want)
		if got := int(r.b.Log().End() - end); got != c.spent {
			t.Errorf("of %d bytes that are left %d were laid, want %d", c.left, got, c.spent)
		}
		r.wantLive("a full log", []api.Ref{{Page: 1}}[:c.live]...)
		versions := []api.Version{version(3, bodyOf(1)), {}}
		if c.want == api.OK {
			versions = versions[1:]
		}
		r.wantVersions("a full log", 1, versions...)
		r.wantHeld("a full log")
	}
}

func TestFree(t *testing.T) { // P21.2
	r := rigOf(t, 8, 3, 3, 64)
	for i := range 5 {
		r.install(uint16(i%3), uint32(i+1), wholeOf(i+1))
	}
	live := r.b.Room().Refs()
	end := r.b.Log().End()
	for _, slot := range []uint8{0, 1, 14, 15, math.MaxUint8} {
		r.want("Free of no page", Free(r.b, api.Ref{Slot: slot}), api.ErrArg)
		r.want("Free of a page that is none", Free(r.b, api.Ref{Page: 4, Slot: slot}), api.ErrArg)
		r.want("Free of the last page", Free(r.b, api.Ref{Page: math.MaxUint16, Slot: slot}), api.ErrArg)
	}
	for _, at := range []api.Ref{{Page: 1, Slot: 2}, {Page: 1, Slot: math.MaxUint8}, {Page: 3, Slot: 1}, {Page: 2, Slot: 15}} {
		r.want("Free of nothing", Free(r.b, at), api.ErrForm)
	}
	if r.b.Log().End() != end {
		t.Error("something was laid")
	}
	r.wantLive("nothing freed", live...)
	r.touch(nil, []uint16{1})
	for len(live) > 0 {
		i := len(live) / 2
		r.want("Free", Free(r.b, live[i]), api.OK)
		if live[i].Page == 2 {
			r.wantTold("Free", api.Rec{Kind: api.RFree, Page: undo(1), Slot: live[i].Slot})
		}
		r.want("Free again", Free(r.b, live[i]), api.ErrForm)
		live = slices.Delete(live, i, i+1)
		r.wantLive("freed", live...)
		r.wantHeld("freed")
	}
}

func TestFreeFails(t *testing.T) { // P21.2
	for _, plan := range failures(1) {
		r, held := twoVersions(t)
		r.d.Plan(plan.fails, plan.fuse)
		r.want("Free", Free(r.b, api.Ref{Page: 1}), plan.want)
		r.d.Crash(nil)
		r.wantLive("a failure", api.Ref{Page: 1})
		r.want("Free again", Free(r.b, api.Ref{Page: 1}), api.OK)
		r.wantLive("again")
		r.wantHeld("again", held...)
	}
}

func TestAlone(t *testing.T) { // rule 6
	a, b := rigOf(t, 4, 3, 3, 64), rigOf(t, 5, 3, 3, 64)
	a.install(1, 5, bodyOf(1))
	b.install(1, 2, bodyOf(2))
	b.install(1, 3, bodyOf(3))
	a.pop(1)
	a.wantVersions("one", 1, api.Version{})
	b.wantVersions("the other", 1, version(3, bodyOf(3)), version(2, bodyOf(2)), api.Version{})
}

// anyBody is a body that is more or less like another one.
func anyBody(x *rand.Rand, b api.Body) api.Body {
	switch x.Intn(5) {
	case 0:
		return b
	case 1:
		return wholeOf(x.Intn(256))
	}
	for range 1 + x.Intn(12) {
		b[x.Intn(64)] = byte(x.Intn(256))
	}
	return b
}
