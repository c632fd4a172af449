package restart

import (
	"math"
	"slices"
	"strings"
	"testing"

	"varve/api"
	"varve/commit"
	"varve/disk"
	"varve/master"
	"varve/page"
	"varve/rec"
	"varve/ring"
	"varve/seal"
	"varve/slot"
	"varve/vacuum"
)

func TestExamples(t *testing.T) { // P23.1, P23.2, P23.5
	d := disk.New(110)
	want(t, "Format", Format(d, example()), api.OK)
	r := opened(t, d, 4)
	if m := r.s.Master(); m.Epoch != 1 || m.Last != 0 {
		t.Errorf("a new store: %+v", m)
	}
	r.install(1, 1, bodyOf(9))
	r = r.again(nil, 4)
	r.wantVersions("it wasn't committed", 1, version(0, api.Body{}))
	if m := r.s.Master(); m.Epoch != 2 || m.Last != 0 {
		t.Errorf("it wasn't committed: %+v", m)
	}
	r.install(1, 1, bodyOf(9))
	r.commit(1)
	r = r.again(nil, 4)
	r.wantVersions("it was committed", 1, version(1, bodyOf(9)), version(0, api.Body{}))
	if m := r.s.Master(); m.Epoch != 3 || m.Last != 1 {
		t.Errorf("it was committed: %+v", m)
	}
}

func TestOpenFrames(t *testing.T) { // P23.2
	d := formatted(t, small())
	before := sure(d)
	for _, frames := range []int{3, 33, 0, -4, math.MinInt, math.MaxInt} {
		wantNoOpen(t, "frames", d, frames, api.ErrArg)
		wantNoOpen(t, "frames of no disk", nil, frames, api.ErrArg)
		wantNoOpen(t, "frames, and no store", disk.New(9), frames, api.ErrArg)
	}
	if d.Ops() != 0 || !slices.Equal(sure(d), before) {
		t.Error("the disk was asked")
	}
	for _, frames := range []int{4, 5, 31, 32} {
		r := opened(t, d, frames)
		for _, id := range pagesOf(r.c) {
			r.see(id)
		}
		n := 0
		for _, id := range pagesOf(r.c) {
			if r.s.Base().Cache().Resident(id) {
				n++
			}
		}
		if n != min(frames, 7) {
			t.Errorf("with %d frames %d pages are resident", frames, n)
		}
	}
}

func TestOpenNoStore(t *testing.T) { // P23.2, 1
	for _, frames := range []int{4, 32} {
		wantNoOpen(t, "no disk", nil, frames, api.ErrDown)
		wantNoOpen(t, "one block", disk.New(1), frames, api.ErrArg)
		for _, n := range []int{2, 5, 100} {
			d := disk.New(n)
			wantNoOpen(t, "noughts", d, frames, api.ErrForm)
			if d.Ops() != 3 || d.Pending() != 0 {
				t.Errorf("%d operations, %d writes don't last", d.Ops(), d.Pending())
			}
			wantNoOpen(t, "something", usedDisk(n), frames, api.ErrForm)
		}
	}
	d := formatted(t, small())
	d.Plan(nil, 1)
	d.Sync()
	wantNoOpen(t, "without power", d, 4, api.ErrDown)
	d.Crash(nil)
	b := d.Sure(0)
	b[100]++
	d.Write(0, b)
	wantNoOpen(t, "a broken master", d, 4, api.ErrForm)
}

func TestOpenTooSmall(t *testing.T) { // P23.2, 1
	for _, c := range configs() {
		whole := formatted(t, c)
		n := whole.Size()
		for _, size := range []int{2, n - 1, n, n + 1} {
			d := disk.New(size)
			for i := range min(size, n) {
				d.Write(i, whole.Sure(i))
			}
			d.Sync()
			if size >= n {
				opened(t, d, 4)
				continue
			}
			d.Plan(nil, 0)
			before := sure(d)
			wantNoOpen(t, "too few blocks", d, 4, api.ErrForm)
			if d.Ops() != 3 || d.Pending() != 0 || !slices.Equal(sure(d), before) {
				t.Errorf("%d blocks: %d operations, or something was written", size, d.Ops())
			}
		}
	}
}

// What was read must last: a master that is pending is synced ahead of all else.
func TestOpenSyncs(t *testing.T) { // P23.2, 1
	d := formatted(t, small())
	m := api.Master{Seq: 8, Epoch: 4, LSN: 1, Config: small()}
	b, _ := master.Pack(m)
	d.Write(1, b)
	d.Plan(nil, 2) // the first Read
	wantNoOpen(t, "without power", d, 4, api.ErrDown)
	if d.Pending() != 0 || masterIn(d, 1) != m {
		t.Error("what was pending doesn't last")
	}
	d.Crash(nil)
	d.Write(0, blockOf(3))
	d.Plan([]int{1}, 0)
	wantNoOpen(t, "Sync fails", d, 4, api.ErrIO)
	if d.Ops() != 1 || d.Pending() != 4 {
		t.Errorf("Sync fails: %d operations", d.Ops())
	}
}

func TestOpenMasters(t *testing.T) { // P23.2, 1 and 5: Seq and Epoch, and the block that was stored
	for slot := range 2 {
		m := api.Master{Seq: 40, Epoch: 7, Tail: 200, LSN: 9000, Last: 5, Config: small()}
		l := leftOf(t, m, slot, 9000)
		l.done()
		// Sync, Read, Read, Write, Sync, and the scan's Read, at which the power goes.
		x := copyOf(l.d)
		x.Plan(nil, 6)
		wantNoOpen(t, "behind the first master", x, 4, api.ErrDown)
		first := m
		first.Seq, first.Epoch = 41, 8
		if masterIn(x, 1-slot) != first || masterIn(x, slot) != m {
			t.Errorf("the blocks hold %+v and %+v, want %+v in the block %d", masterIn(x, 0), masterIn(x, 1), first, 1-slot)
		}
		r := l.open(4)
		second := m
		second.Seq, second.Epoch = 42, 8
		r.wantMaster("behind Open", second)
		if masterIn(l.d, slot) != second || masterIn(l.d, 1-slot) != first {
			t.Errorf("the blocks hold %+v and %+v, want %+v in the block %d", masterIn(l.d, 0), masterIn(l.d, 1), second, slot)
		}
		// Broken off behind the first master, Open begins with that one.
		x.Crash(nil)
		third := m
		third.Seq, third.Epoch = 43, 9
		opened(t, x, 4).wantMaster("behind two", third)
	}
	for n := uint32(1); n < 9; n++ {
		r := opened(t, formatted(t, small()), 4)
		for range n - 1 {
			r = r.again(nil, 4)
		}
		r.wantMaster("opened again", api.Master{Seq: uint64(2*n + 1), Epoch: n, LSN: 1, Config: small()})
		r.wantSettled("opened again")
	}
}

// A new store is opened by these operations: Sync, both masters, one stored, a block of the log, the undo pages, the
// data pages, and a master stored.
func TestOpenOps(t *testing.T) { // P23.2
	for _, c := range configs() {
		d := formatted(t, c)
		if _, e := Open(d, 4); e != api.OK || d.Ops() != 8+c.Undo+c.Pages {
			t.Errorf("Open = %d, by %d operations, want %d", e, d.Ops(), 8+c.Undo+c.Pages)
		}
	}
}

func TestOpenNoTexts(t *testing.T) { // P23.2, 2: there is no chunk
	for _, tail := range []uint32{0, 1, 63, 64, 1000, math.MaxUint32} {
		for _, lsn := range []uint64{0, 1, 5, 1 << 40} {
			m := plainMaster()
			m.Tail, m.LSN = tail, lsn
			l := leftOf(t, m, 1, lsn)
			r := l.open(4)
			r.wantMaster("no texts", api.Master{Seq: 7, Epoch: 3, Tail: tail, LSN: lsn, Last: 2, Config: m.Config})
			if b := r.s.Base().Log(); b.End() != lsn || b.Tail() != tail || b.Free() != 64 {
				t.Errorf("the log ends at %d, its next block is %d", b.End(), b.Tail())
			}
			// The log goes on there, with the new epoch.
			r.install(1, 3, bodyOf(1))
			r.flush()
			chunk, ok := ring.Unpack(r.d.Sure(2 + 4 + 3 + int(tail%64)))
			if !ok || chunk.Epoch != 3 || chunk.Number != tail || chunk.Offset != lsn {
				t.Errorf("the log goes on with %+v", chunk)
			}
		}
	}
}

func TestOpenTextsAhead(t *testing.T) { // P23.2, 2: just the texts from the master's LSN on
	m := plainMaster()
	l := leftOf(t, m, 1, 100)
	l.tell(committed(50))
	l.tell(setTo(1, 50, api.Ref{}))
	m.LSN = l.tell(committed(4))
	l.tell(setTo(2, 4, api.Ref{}))
	end := l.l.End()
	m.Seq++
	want(t, "Store", master.Store(l.d, 0, m), api.OK)
	r := l.open(4)
	r.wantVersions("a text ahead of the LSN", 1, version(0, api.Body{}))
	r.wantVersions("a text behind it", 2, version(4, bodyOf(4)))
	r.wantMaster("texts ahead", api.Master{Seq: 8, Epoch: 3, Tail: 1, LSN: end, Last: 4, Config: m.Config})
	r.wantSettled("texts ahead")
}

// A master's LSN that the stream doesn't reach: no texts, and the log goes on at the LSN.
func TestOpenLSNElsewhere(t *testing.T) { // P23.2, 2
	for _, c := range []struct {
		lsn    uint64
		end    uint64
		number uint32
	}{
		{90, 90, 0},   // ahead of the first block: that one isn't kept
		{100, 122, 1}, // where it begins
		{111, 122, 1}, // the second text
		{112, 112, 1}, // within a text
		{122, 122, 1}, // at the end
		{123, 123, 1}, // behind it
		{1 << 50, 1 << 50, 1},
	} {
		m := plainMaster()
		m.LSN = c.lsn
		l := leftOf(t, m, 1, 100)
		if l.tell(committed(1)) != 100 || l.tell(committed(1)) != 111 || l.l.End() != 122 {
			t.Fatal("the texts stand elsewhere")
		}
		r := l.open(4)
		r.wantMaster("an LSN elsewhere", api.Master{Seq: 7, Epoch: 3, Tail: c.number, LSN: c.end, Last: 2, Config: m.Config})
	}
}

// The blocks that hold nothing up to the end aren't kept: the log goes on in their place.
func TestOpenKeeps(t *testing.T) { // P23.2, 2
	m := plainMaster()
	l := leftOf(t, m, 1, 1)
	for range 3 {
		l.tell(committed(3))
	}
	lsn := l.text(strings.Repeat("x", 400)) // in three blocks, of which the last one will be none
	l.done()
	l.d.Write(2+4+3+2, api.Block{})
	r := l.open(4)
	r.wantMaster("a broken text", api.Master{Seq: 7, Epoch: 3, Tail: 1, LSN: lsn, Last: 3, Config: m.Config})
	r.install(1, 4, bodyOf(4))
	r.commit(4)
	r = r.again(nil, 4)
	r.wantVersions("behind a broken text", 1, version(4, bodyOf(4)), version(0, api.Body{}))
}

// What a log has left of an elder epoch is passed over.
func TestOpenElderBlocks(t *testing.T) { // P23.2, 2
	m := plainMaster()
	l := leftOf(t, m, 1, 1)
	end := l.tell(committed(3))
	l.done()
	// A block behind it, of the epoch 1.
	old, _ := ring.Pack(api.Chunk{Epoch: 1, Number: 1, Offset: l.l.End(), Bytes: ring.Frame("\x06\x09\x00\x00\x00")})
	l.d.Write(2+4+3+1, old)
	r := l.open(4)
	if r.s.Master().Last != 3 || r.s.Master().LSN != end+11 {
		t.Errorf("an elder block was taken: %+v", r.s.Master())
	}
	// The same of the epoch 2 is the log's.
	l = leftOf(t, m, 1, 1)
	l.tell(committed(3))
	l.done()
	next, _ := ring.Pack(api.Chunk{Epoch: 2, Number: 1, Offset: l.l.End(), Bytes: ring.Frame("\x06\x09\x00\x00\x00")})
	l.d.Write(2+4+3+1, next)
	if r := l.open(4); r.s.Master().Last != 9 || r.s.Master().LSN != end+22 {
		t.Errorf("a block wasn't taken: %+v", r.s.Master())
	}
}

// A stream whose blocks' places fall is none that a log could go on with.
func TestOpenNoParts(t *testing.T) { // P23.2, 2: ErrForm
	l := leftOf(t, plainMaster(), 1, 1)
	frame := ring.Frame("\x06\x03\x00\x00\x00")
	for i, c := range []api.Chunk{
		{Epoch: 1, Number: 0, Offset: 1, Bytes: frame},
		{Epoch: 1, Number: 1, Offset: 12, Bytes: frame},
		{Epoch: 2, Number: 2, Offset: 1, Bytes: frame + frame + frame},
	} {
		b, e := ring.Pack(c)
		want(t, "Pack", e, api.OK)
		l.d.Write(2+4+3+i, b)
	}
	l.done()
	wantNoOpen(t, "places fall", l.d, 4, api.ErrForm)
	if m := masterIn(l.d, 0); m.Seq != 6 || m.Epoch != 3 {
		t.Errorf("ahead of it %+v was stored", m)
	}
}

func TestOpenLast(t *testing.T) { // P23.2, 3: the greatest Ts, the master's Last among them
	for _, c := range []struct {
		last uint32
		list []uint32
		want uint32
	}{
		{0, nil, 0},
		{5, nil, 5},
		{5, []uint32{4}, 5},
		{5, []uint32{5}, 5},
		{5, []uint32{6}, 6},
		{5, []uint32{7, 6}, 7},
		{5, []uint32{2, 9, 3, 8}, 9},
		{0, []uint32{1, 2, 99}, 99},
		{99, []uint32{1, 2, 99}, 99},
	} {
		m := plainMaster()
		m.Last = c.last
		l := leftOf(t, m, 1, 1)
		for _, ts := range c.list {
			l.tell(committed(ts))
		}
		if got := l.open(4).s.Master().Last; got != c.want {
			t.Errorf("the master's Last is %d, commits are %v: Last %d, want %d", c.last, c.list, got, c.want)
		}
	}
	l := leftOf(t, plainMaster(), 1, 1)
	l.tell(committed(100))
	l.done()
	wantNoOpen(t, "a commit above MaxTs", l.d, 4, api.ErrArg)
}

// versionIn is a data page with a version alone.
func versionIn(no uint16, lsn uint64, ts uint32, n int) api.Payload {
	return page.PutData(no, api.Data{LSN: lsn, Ts: ts, Body: bodyOf(n)})
}

func TestOpenStrayTexts(t *testing.T) { // P23.2, 3: pages that aren't there, and texts that tell nothing
	l := leftOf(t, plainMaster(), 1, 1)
	l.tell(setTo(4, 2, api.Ref{}))
	l.tell(setTo(math.MaxUint16, 2, api.Ref{}))
	l.tell(imageOf(data(60), versionIn(60, 0, 1, 1)))
	l.tell(imageOf(undo(3), page.Blank(undo(3))))
	l.tell(keptAs(40, 0, 1, 0, api.Ref{}))
	l.tell(api.Rec{Kind: api.RFree, Page: undo(3)})
	l.tell(api.Rec{Kind: api.RCut, Page: undo(math.MaxUint16), Slot: 3})
	l.text("x")
	l.text(strings.Repeat("\x07", 400))
	l.text("\x06\x09\x00\x00\x00\x00") // a byte too many
	lsn := l.tell(setTo(1, 2, api.Ref{}))
	r := l.open(4)
	r.wantPage("behind stray texts", data(1), versionIn(1, lsn, 2, 2))
	if r.s.Master().Last != 2 {
		t.Errorf("Last is %d", r.s.Master().Last)
	}
	r.wantSettled("behind stray texts")
}

func TestOpenNewerPages(t *testing.T) { // P23.2, 3: a page's LSN below, at and above a record's
	for _, c := range []struct {
		at   uint64
		want uint32
	}{{0, 2}, {11, 2}, {12, 1}, {13, 1}, {9000, 1}} {
		l := leftOf(t, plainMaster(), 1, 1)
		l.tell(committed(1))
		l.page(data(1), versionIn(1, c.at, 1, 1))
		l.page(data(2), versionIn(2, c.at, 1, 1))
		lsn := l.tell(api.Rec{Kind: api.RData, Page: data(1), Ts: 2})
		if lsn != 12 {
			t.Fatalf("the record stands at %d", lsn)
		}
		r := l.open(4)
		body := versionIn(1, max(c.at, 12), c.want, 1)
		r.wantPage("a record", data(1), body)
		// An image is held against the page likewise.
		l = leftOf(t, plainMaster(), 1, 1)
		l.tell(committed(1))
		l.page(data(1), versionIn(1, c.at, 1, 1))
		l.tell(imageOf(data(1), versionIn(1, 77, 2, 1)))
		l.open(4).wantPage("an image", data(1), body)
	}
}

func TestOpenRecords(t *testing.T) { // P23.2, 3: each record makes of a page what apply says
	l := leftOf(t, plainMaster(), 1, 1)
	var lsn uint64
	for _, r := range []api.Rec{
		keptAs(1, 0, 1, 0, api.Ref{}),
		keptAs(1, 1, 2, 1, api.Ref{Page: 9, Slot: 9}),
		keptAs(1, 2, 2, 1, api.Ref{}),
		{Kind: api.RFree, Page: undo(1), Slot: 2},
		{Kind: api.RCut, Page: undo(1), Slot: 1},
	} {
		lsn = l.tell(r)
	}
	mid := l.tell(setTo(2, 1, api.Ref{}))
	l.tell(setTo(3, 1, api.Ref{}))
	late := l.tell(api.Rec{Kind: api.RData, Page: data(3), Ts: 2})
	r := l.open(4)
	u := api.Undo{}
	for _, x := range []api.Rec{keptAs(1, 0, 1, 0, api.Ref{}), keptAs(1, 1, 2, 1, api.Ref{})} {
		u, _, _ = slot.Add(u, x.Old)
	}
	u.LSN = lsn
	p, _ := page.PutUndo(1, u)
	r.wantPage("records", undo(1), p)
	r.wantPage("a record", data(2), versionIn(2, mid, 1, 1))
	r.wantPage("two records", data(3), versionIn(3, late, 2, 1))
	r.wantPage("no record", data(0), page.Blank(data(0)))
	r.wantPage("no record", undo(2), page.Blank(undo(2)))
	r.wantLive("records", 2)
	r.wantSettled("records")
}

func TestOpenRedoRefused(t *testing.T) { // P23.2, 3: what Redo refuses leaves the page as it is
	l := leftOf(t, plainMaster(), 1, 1)
	first := l.tell(setTo(1, 1, api.Ref{}))
	l.tell(api.Rec{Kind: api.RData, Page: data(1), Ts: 2, Delta: "x"})
	l.tell(keptAs(1, 1, 1, 0, api.Ref{})) // it would be the slot 0
	l.tell(api.Rec{Kind: api.RFree, Page: undo(2), Slot: 4})
	l.tell(api.Rec{Kind: api.RCut, Page: undo(0)})
	l.tell(imageOf(data(2), versionIn(3, 0, 1, 1))) // another page's
	last := l.tell(setTo(3, 1, api.Ref{}))
	r := l.open(4)
	r.wantPage("a delta that is none", data(1), versionIn(1, first, 1, 1))
	r.wantPage("behind refused ones", data(3), versionIn(3, last, 1, 1))
	for _, id := range []api.PageID{undo(0), undo(1), undo(2), data(2)} {
		r.wantPage("refused", id, page.Blank(id))
	}
	r.wantLive("refused", 0)
	r.wantSettled("refused")
}

func TestOpenTorn(t *testing.T) { // P23.2, 3: a torn page is told anew from an image on
	l := leftOf(t, plainMaster(), 1, 1)
	for _, id := range pagesOf(small()) {
		l.tear(id)
	}
	l.tell(setTo(1, 1, api.Ref{}))
	l.tell(setTo(2, 1, api.Ref{}))
	l.tell(keptAs(0, 0, 1, 0, api.Ref{}))
	one := l.tell(imageOf(data(1), versionIn(1, 1<<40, 2, 9)))
	l.tell(imageOf(undo(1), page.Blank(undo(1))))
	l.tell(imageOf(data(3), versionIn(2, 0, 2, 9))) // another page's
	l.tell(setTo(3, 1, api.Ref{}))
	added := l.tell(keptAs(1, 0, 1, 0, api.Ref{}))
	two := l.tell(imageOf(data(0), versionIn(0, 0, 1, 9)))
	two = l.tell(api.Rec{Kind: api.RData, Page: data(0), Ts: 2})
	l.done()
	x, e := Open(l.d, 4)
	if e != api.OK {
		t.Fatalf("Open = %d", e)
	}
	r := &rig{t: t, d: l.d, s: x, c: small()}
	r.wantPage("an image", data(1), versionIn(1, one, 2, 9))
	r.wantPage("an image and a record", data(0), versionIn(0, two, 2, 9))
	u, _, _ := slot.Add(api.Undo{LSN: added}, keptAs(1, 0, 1, 0, api.Ref{}).Old)
	p, _ := page.PutUndo(1, u)
	r.wantPage("an undo page's image", undo(1), p)
	r.wantLive("torn", 1)
	for _, id := range []api.PageID{data(2), data(3), undo(0), undo(2)} {
		r.wantPage("without an image", id, page.Blank(id))
		if !x.Base().Cache().Torn(id) {
			t.Errorf("%v was put", id)
		}
	}
	for i, id := range pagesOf(small()) {
		_, whole, ok := seal.Open(r.d.Sure(2 + i))
		if ok != slices.Contains([]api.PageID{data(0), data(1), undo(1)}, id) || ok && whole != r.see(id) {
			t.Errorf("%v was written: %v", id, ok)
		}
	}
}

// A torn page that was told anew isn't torn any more: what stands ahead of its image comes too late.
func TestOpenTornTwice(t *testing.T) { // P23.2, 3
	l := leftOf(t, plainMaster(), 1, 1)
	l.tear(data(1))
	l.tell(imageOf(data(1), versionIn(1, 0, 1, 1)))
	l.tell(imageOf(data(1), versionIn(1, 0, 2, 2)))
	lsn := l.tell(imageOf(data(1), versionIn(1, 0, 1, 3)))
	r := l.open(4)
	r.wantPage("three images", data(1), versionIn(1, lsn, 1, 3))
	r.wantSettled("three images")
}

// Of a torn page no LSN counts, not even that of a log that begins at 0.
func TestOpenTornAtNought(t *testing.T) { // P23.2, 3
	m := plainMaster()
	m.LSN = 0
	l := leftOf(t, m, 1, 0)
	l.tear(data(1))
	if l.tell(imageOf(data(1), versionIn(1, 9, 2, 3))) != 0 {
		t.Fatal("the image doesn't stand at 0")
	}
	l.open(4).wantPage("an image at 0", data(1), versionIn(1, 0, 2, 3))
}

func TestOpenUndoes(t *testing.T) { // P23.2, 4
	for _, frames := range []int{4, 7, 32} {
		r := fresh(t, small(), frames)
		r.install(0, 1, bodyOf(1))
		r.install(2, 1, bodyOf(1))
		r.commit(1)
		r.install(0, 2, bodyOf(2))
		r.flush()
		// One page has one version too many.
		x := opened(t, copyOf(r.d), frames)
		x.wantVersions("one", 0, version(1, bodyOf(1)), version(0, api.Body{}))
		x.wantVersions("one", 2, version(1, bodyOf(1)), version(0, api.Body{}))
		x.wantLive("one", 2)
		x.wantSettled("one")
		// Several pages have several.
		r.install(0, 5, bodyOf(5))
		r.install(0, 6, bodyOf(6))
		r.install(1, 2, bodyOf(2))
		r.install(2, 2, bodyOf(2))
		r.install(3, 7, bodyOf(7))
		r.install(3, 99, bodyOf(99))
		r.flush()
		x = opened(t, copyOf(r.d), frames)
		for _, no := range []uint16{0, 2} {
			x.wantVersions("several", no, version(1, bodyOf(1)), version(0, api.Body{}))
		}
		for _, no := range []uint16{1, 3} {
			x.wantVersions("several", no, version(0, api.Body{}))
		}
		x.wantLive("several", 2)
		x.wantSettled("several")
		if x.s.Master().Last != 1 {
			t.Errorf("several: Last is %d", x.s.Master().Last)
		}
		// Some are below the last one.
		r.commit(5)
		x = opened(t, copyOf(r.d), frames)
		x.wantVersions("some", 0, version(5, bodyOf(5)), version(2, bodyOf(2)), version(1, bodyOf(1)), version(0, api.Body{}))
		x.wantVersions("some", 3, version(0, api.Body{}))
		x.wantLive("some", 6)
		x.wantSettled("some")
		// What was undone is gone for ever.
		x.again(nil, frames).wantVersions("again", 3, version(0, api.Body{}))
	}
}

// Versions are taken back, page by page, rising, by what commit.Pop lays in the log.
func TestOpenPops(t *testing.T) { // P23.2, 4
	r := fresh(t, small(), 32)
	r.install(3, 1, bodyOf(1))
	r.install(1, 1, bodyOf(1))
	r.install(1, 2, bodyOf(2))
	r.flush()
	end := r.s.Base().Log().End()
	x := r.again(nil, 32)
	twin := opened(t, formatted(t, small()), 32)
	twin.install(3, 1, bodyOf(1))
	twin.install(1, 1, bodyOf(1))
	twin.install(1, 2, bodyOf(2))
	for _, no := range []uint16{1, 1, 3} {
		twin.want("Pop", commit.Pop(twin.s.Base(), no), api.OK)
	}
	twin.flush()
	got, wanted := entries(t, x.d, small(), 0, end), entries(t, twin.d, small(), 0, end)
	if len(got) == 0 || !slices.Equal(got, wanted) {
		t.Errorf("the log tells %+v, want %+v", got, wanted)
	}
}

// Where nothing stands ahead of a version that wasn't committed, there is nothing to go back to.
func TestOpenNothingAhead(t *testing.T) { // P23.2, 4: an error of Pop
	l := leftOf(t, plainMaster(), 1, 1)
	l.tell(setTo(1, 9, api.Ref{}))
	l.done()
	wantNoOpen(t, "nothing ahead", l.d, 4, api.ErrArg)
	l = leftOf(t, plainMaster(), 1, 1)
	l.tell(setTo(1, 9, api.Ref{Page: 1, Slot: 3}))
	l.done()
	wantNoOpen(t, "a broken chain", l.d, 4, api.ErrForm)
	// A version up to the last commit is left, whatever its Prev is.
	l = leftOf(t, plainMaster(), 1, 1)
	l.tell(setTo(1, 2, api.Ref{Page: 1, Slot: 3}))
	l.open(4)
}

// All undo pages are looked at, those too of which the log tells nothing.
func TestOpenLearns(t *testing.T) { // P23.2, 4
	l := leftOf(t, plainMaster(), 1, 1)
	u, _, _ := slot.Add(api.Undo{}, api.Old{Live: true, Page: 1, Ts: 1})
	u, _, _ = slot.Add(u, api.Old{Live: true, Page: 2, Ts: 1})
	p, e := page.PutUndo(2, u)
	want(t, "PutUndo", e, api.OK)
	l.page(undo(2), p)
	r := l.open(4)
	if got := r.s.Base().Room().Refs(); !slices.Equal(got, []api.Ref{{Page: 3}, {Page: 3, Slot: 1}}) {
		t.Errorf("the room knows %v", got)
	}
}

// All dirty pages are written, in the order of their blocks, each synced, and then a master is stored.
func TestOpenWritesBack(t *testing.T) { // P23.2, 5
	l := leftOf(t, plainMaster(), 1, 1)
	for _, no := range []uint16{3, 0, 2} {
		l.tell(setTo(no, 1, api.Ref{}))
	}
	l.tell(keptAs(2, 0, 1, 0, api.Ref{}))
	l.tell(keptAs(0, 0, 1, 0, api.Ref{}))
	l.done()
	x := copyOf(l.d)
	if _, e := Open(x, 32); e != api.OK {
		t.Fatalf("Open = %d", e)
	}
	n := x.Ops()
	before := sure(l.d)
	for i, b := range []int{2, 4, 5, 6, 8} { // the blocks of these pages
		d := copyOf(l.d)
		d.Plan(nil, n-2-10+2*i+1) // its Write
		wantNoOpen(t, "at a page's Write", d, 32, api.ErrDown)
		if d.Sure(b) != before[b] || d.Pending() != 0 {
			t.Errorf("the block %d was written early", b)
		}
		d = copyOf(l.d)
		d.Plan(nil, n-2-10+2*i+2) // its Sync
		wantNoOpen(t, "at a page's Sync", d, 32, api.ErrDown)
		if d.Seen(b) == before[b] || d.Pending() != 4 {
			t.Errorf("the block %d wasn't written", b)
		}
	}
	d := copyOf(l.d)
	d.Plan(nil, n)
	wantNoOpen(t, "at the last Sync", d, 32, api.ErrDown)
	if b, _ := master.Unpack(d.Seen(1)); b.Seq != 7 || d.Pending() != 4 {
		t.Errorf("behind the pages %+v was stored", b)
	}
}

// wellUsed is a disk on which a store has been used, with pages on the disk and in the log, committed and not, one of
// which is torn.
func wellUsed(t *testing.T) *disk.Disk {
	t.Helper()
	r := fresh(t, api.Config{Pages: 5, Undo: 6, Log: 64, MaxTs: 99}, 4)
	for i, no := range []uint16{1, 2, 1, 3, 0, 2, 4} {
		ts := uint32(i + 1)
		r.install(no, ts, wholeOf(i+1))
		r.commit(ts)
	}
	r.want("Mark", r.s.Mark(7), api.OK)
	r.install(1, 8, bodyOf(8))
	r.commit(8)
	r.install(1, 9, bodyOf(9))
	r.write(data(1))
	r.install(3, 9, bodyOf(9))
	r.install(4, 9, bodyOf(10))
	r.flush()
	// Page 4's block is broken off while it is written.
	r.d.Plan(nil, 2)
	r.want("Write", r.s.Base().Cache().Write(data(4)), api.ErrDown)
	r.d.Crash([]bool{false, true})
	return r.d
}

// wantWellUsed holds a store that was opened against what was committed.
func (r *rig) wantWellUsed(name string) {
	r.t.Helper()
	none := version(0, api.Body{})
	r.wantVersions(name, 0, version(5, wholeOf(5)), none)
	r.wantVersions(name, 1, version(8, bodyOf(8)), version(3, wholeOf(3)), version(1, wholeOf(1)), none)
	r.wantVersions(name, 2, version(6, wholeOf(6)), version(2, wholeOf(2)), none)
	r.wantVersions(name, 3, version(4, wholeOf(4)), none)
	r.wantVersions(name, 4, version(7, wholeOf(7)), none)
	if r.s.Master().Last != 8 {
		r.t.Errorf("%s: Last is %d", name, r.s.Master().Last)
	}
	r.wantSettled(name)
}

func TestOpenUsed(t *testing.T) { // P23.2
	d := wellUsed(t)
	if _, _, ok := seal.Open(d.Sure(6)); ok {
		t.Fatal("the page 4 isn't torn")
	}
	for _, frames := range []int{4, 5, 11, 32} {
		r := opened(t, copyOf(d), frames)
		r.wantWellUsed("used")
		r.wantLive("used", 8)
	}
}

// With a frame for each page all that is asked of the disk has to be, so that the first error is the answer.
func TestOpenFails(t *testing.T) { // P23.2: an operation that fails at each place
	d := wellUsed(t)
	x := copyOf(d)
	if _, e := Open(x, 11); e != api.OK {
		t.Fatalf("Open = %d", e)
	}
	n := x.Ops()
	if n < 30 {
		t.Errorf("Open takes just %d operations", n)
	}
	for k := 1; k <= n; k++ {
		for _, f := range failures(k) {
			x := copyOf(d)
			x.Plan(f.fails, f.fuse)
			wantNoOpen(t, "a failure", x, 11, f.want)
			if x.Ops() != k {
				t.Errorf("a failure at %d: %d operations", k, x.Ops())
			}
			if f.fuse == 0 {
				x.Plan(nil, 0)
				opened(t, x, 11).wantWellUsed("without a crash")
				continue
			}
			for _, keep := range [][]bool{nil, {true, true, true, true}, {false, true, false, true}} {
				x := copyOf(d)
				x.Plan(nil, k)
				Open(x, 11)
				x.Crash(keep)
				opened(t, x, 4).wantWellUsed("behind a crash")
			}
		}
	}
}

// A log that has no room for what is undone: the first error is the answer.
func TestOpenFull(t *testing.T) { // P23.2, 4
	l := leftOf(t, plainMaster(), 1, 1)
	l.tell(keptAs(0, 0, 1, 0, api.Ref{}))
	l.tell(setTo(1, 9, api.Ref{Page: 1}))
	for l.l.Free() > 0 {
		l.text(strings.Repeat("x", 208)) // a block
	}
	l.done()
	wantNoOpen(t, "a full log", l.d, 4, api.ErrFull)
	// One block is enough.
	l = leftOf(t, plainMaster(), 1, 1)
	l.tell(keptAs(0, 0, 1, 0, api.Ref{}))
	l.tell(setTo(1, 9, api.Ref{Page: 1}))
	for l.l.Free() > 0 {
		l.text(strings.Repeat("x", 208))
	}
	l.done()
	c := small()
	l.d.Write(2+c.Pages+c.Undo+63, api.Block{})
	r := l.open(4)
	r.wantVersions("an almost full log", 1, version(0, api.Body{}))
	r.wantLive("an almost full log", 0)
	r.wantSettled("an almost full log")
}

// The log goes round its region many times, over many openings.
func TestOpenRound(t *testing.T) { // P23.2, 2
	r := fresh(t, small(), 4)
	for ts := uint32(1); ts < 60; ts++ {
		body := wholeOf(int(ts))
		r.install(uint16(ts%2), ts, body)
		r.commit(ts)
		for range 3 { // so that it takes more blocks
			r.flush()
			if _, e := r.s.Base().Log().Append("x"); e != api.OK {
				t.Fatalf("Append = %d", e)
			}
		}
		r.flush()
		if ts%2 == 0 {
			r.want("Pass", vacuum.Pass(r.s.Base(), ts), api.OK)
			r.flush()
		}
		r = r.again(nil, 4+int(ts%3))
		if v := newestOf(r, uint16(ts%2)); v != version(ts, body) || r.s.Master().Last != ts {
			t.Fatalf("behind %d commits: %+v, Last %d", ts, v, r.s.Master().Last)
		}
		r.wantSettled("round")
	}
	if r.s.Master().Tail < 200 {
		t.Errorf("the log's next block is just %d", r.s.Master().Tail)
	}
}

func newestOf(r *rig, no uint16) api.Version {
	d, e := page.GetData(no, r.see(data(no)))
	r.want("GetData", e, api.OK)
	return version(d.Ts, d.Body)
}

// Whatever lies on the disk behind a master, Open ends.
func TestOpenAnything(t *testing.T) { // P23.2
	c := small()
	for seed := range 40 {
		l := leftOf(t, plainMaster(), seed%2, 1)
		for i := 2; i < l.d.Size(); i++ {
			switch (i * (seed + 3)) % 5 {
			case 0:
				l.d.Write(i, blockOf(seed+i))
			case 1:
				p, _ := rec.Encode(setTo(uint16(i%6), uint32(i%4), api.Ref{}))
				b, _ := ring.Pack(api.Chunk{Epoch: uint32(seed % 3), Number: uint32(i - 9), Offset: uint64(1 + i*(seed%4)), Bytes: ring.Frame(p)})
				l.d.Write(i, b)
			case 2:
				l.d.Write(i, seal.Seal(uint64(i), versionIn(uint16(i-2), uint64(i), uint32(i), i)))
			}
		}
		l.d.Sync()
		s, e := Open(l.d, 4)
		if (s == nil) != (e != api.OK) {
			t.Errorf("Open = %v, %d", s, e)
		}
	}
	// A master of which all numbers are the greatest.
	m := api.Master{Seq: math.MaxUint64, Epoch: math.MaxUint32, Tail: math.MaxUint32, LSN: math.MaxUint64, Last: 99, Config: c}
	d := formatted(t, c)
	want(t, "Store", master.Store(d, 1, m), api.OK)
	if s, e := Open(d, 4); (s == nil) != (e != api.OK) {
		t.Errorf("Open = %v, %d", s, e)
	}
}
