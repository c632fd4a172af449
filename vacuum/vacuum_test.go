package vacuum

import (
	"math"
	"slices"
	"testing"

	"varve/api"
	"varve/chain"
	"varve/commit"
	"varve/page"
)

func TestExample(t *testing.T) { // P22.1
	for _, c := range []struct {
		horizon uint32
		left    []api.Version
		places  []api.Ref
	}{
		{6, grown(9, 5), []api.Ref{at(1, 1), at(1, 0)}},
		{9, grown(9), []api.Ref{at(1, 2), at(1, 1), at(1, 0)}},
		{10, grown(9), []api.Ref{at(1, 2), at(1, 1), at(1, 0)}},
		{math.MaxUint32, grown(9), []api.Ref{at(1, 2), at(1, 1), at(1, 0)}},
		{1, grown(9, 5, 2, 0), nil},
	} {
		r := rigOf(t, 4, 3, 3, 70)
		r.grow(1, 2, 5, 9)
		r.wantCut("the example", 1, c.horizon, c.places...)
		r.wantVersions("the example", 1, c.left...)
		r.wantLive("none is freed", at(1, 0), at(1, 1), at(1, 2))
		r.wantHeld("the example")
	}
}

// lastOf is how many versions of a list can be seen from a horizon on, less 1.
func lastOf(list []api.Version, horizon uint32) int {
	for i := len(list) - 1; i >= 0; i-- {
		if list[i].Ts > horizon {
			return min(i+1, len(list)-1)
		}
	}
	return 0
}

// One version, two, and more; each horizon below all, at one, between two, at and above the newest one.
func TestCutHorizons(t *testing.T) { // P22.1
	for _, oldest := range []uint32{0, 3} {
		for n := range uint32(6) {
			newest := oldest + 3*n
			for h := range newest + 4 {
				if h == newest+3 {
					h = math.MaxUint32
				}
				r := rigOf(t, 8, 3, 3, 64)
				r.change(dataEnd(1, oldest))
				r.grow(2, 1, 2)
				want := []api.Version{{Ts: oldest}}
				for i := range n {
					ts := oldest + 3*(i+1)
					r.grow(1, ts)
					want = append(grown(ts), want...)
				}
				r.wantOneCut(1, h, want)
				r.wantVersions("another page", 2, grown(2, 1, 0)...)
			}
		}
	}
}

// wantOneCut cuts a page that has these versions, and holds all that comes of it against the chapter.
func (r *rig) wantOneCut(no uint16, horizon uint32, list []api.Version) {
	r.t.Helper()
	r.wantVersions("ahead of the cut", no, list...)
	refs, _ := chain.Refs(r.b.Cache(), no)
	live, newest := r.live(), r.newest(no)
	olds := make([][]api.Old, r.f.Undo)
	for i := range olds {
		olds[i] = r.olds(uint16(i))
	}
	last := lastOf(list, horizon)
	var laid []api.Rec
	switch {
	case last == len(list)-1:
	case last == 0:
		laid = []api.Rec{dataEnd(no, list[0].Ts)}
		newest.Prev = api.Ref{}
	default:
		x := refs[last-1]
		laid = []api.Rec{cutAt(x)}
		olds[x.Page-1][x.Slot].Next = api.Ref{}
	}
	r.laid("Cut", func() { r.wantCut("Cut", no, horizon, refs[last:]...) }, laid...)
	r.wantVersions("cut", no, list[:last+1]...)
	r.wantLive("none is freed", live...)
	if got := r.newest(no); got != newest {
		r.t.Errorf("Cut(%d, %d): the page is %v, want %v", no, horizon, got, newest)
	}
	for i, want := range olds {
		if got := r.olds(uint16(i)); !slices.Equal(got, want) {
			r.t.Errorf("Cut(%d, %d): the undo page %d is %v, want %v", no, horizon, i, got, want)
		}
	}
	r.wantHeld("Cut")
	if r.t.Failed() {
		r.t.FailNow()
	}
}

// scattered is a store whose page 1 has the versions 6 to 0, told at places in no order, each but the newest one
// by a record of 66 bytes; the page 2 has one version, the page 0 two.
func scattered(t *testing.T, frames int) (*rig, []api.Ref) {
	t.Helper()
	r := rigOf(t, frames, 6, 4, 64)
	for _, c := range []struct {
		no uint16
		ts uint32
	}{{2, 1}, {1, 1}, {1, 2}, {2, 2}, {1, 3}} {
		r.install(c.no, c.ts, wholeOf(int(c.ts)))
	}
	for range 2 {
		r.want("Pop", commit.Pop(r.b, 2), api.OK)
	}
	for ts := range uint32(3) {
		r.install(1, ts+4, wholeOf(int(ts+4)))
	}
	r.install(0, 4, wholeOf(4))
	refs, e := chain.Refs(r.b.Cache(), 1)
	if want := []api.Ref{at(2, 1), at(1, 0), at(3, 1), at(3, 0), at(2, 0), at(1, 1)}; e != api.OK || !slices.Equal(refs, want) {
		t.Fatalf("the versions are told at %v, want %v", refs, want)
	}
	return r, refs
}

func wholes(list ...int) []api.Version {
	var all []api.Version
	for _, n := range list {
		all = append(all, version(uint32(n), wholeOf(n)))
	}
	return all
}

func TestCutPlaces(t *testing.T) { // P22.1: which places are told, and in which order
	for h := range uint32(8) {
		r, _ := scattered(t, 12)
		r.wantOneCut(1, h, wholes(6, 5, 4, 3, 2, 1, 0))
		r.wantVersions("another page", 0, wholes(4, 0)...)
		r.wantVersions("another page", 2, api.Version{})
	}
	r, refs := scattered(t, 12)
	r.laid("Cut", func() { r.wantCut("Cut", 1, 3, at(3, 0), at(2, 0), at(1, 1)) }, cutAt(refs[2]))
}

func TestCutClean(t *testing.T) { // P22.1: the change is base's, so that a page that the disk has is laid as a whole
	r := rigOf(t, 8, 3, 3, 64)
	r.grow(1, 2, 5, 9)
	r.want("Write", r.b.Cache().Write(undo(0)), api.OK)
	r.want("Write", r.b.Cache().Write(data(1)), api.OK)
	end := r.b.Log().End()
	u := api.Undo{LSN: end, Olds: r.olds(0)}
	u.Olds[2].Next = api.Ref{}
	image, e := page.PutUndo(0, u)
	r.want("PutUndo", e, api.OK)
	r.laid("an undo page", func() { r.wantCut("Cut", 1, 6, at(1, 1), at(1, 0)) }, api.Rec{Kind: api.RImage, Page: undo(0), Image: image})
	image = page.PutData(1, api.Data{LSN: r.b.Log().End(), Ts: 9, Body: bodyOf(9)})
	r.laid("a data page", func() { r.wantCut("Cut", 1, 9, at(1, 2)) }, api.Rec{Kind: api.RImage, Page: data(1), Image: image})
	r.wantVersions("cut", 1, grown(9)...)
}

func TestCutFlushesNothing(t *testing.T) { // P22.1: nothing lasts by it
	r := rigOf(t, 8, 3, 3, 64)
	r.grow(1, 2, 5, 9)
	n := r.d.Ops()
	r.wantCut("Cut", 1, 6, at(1, 1), at(1, 0))
	r.wantCut("Cut", 1, 9, at(1, 2))
	r.want("Pass", Pass(r.b, 9), api.OK)
	r.wantOps("two data pages are read", n+2)
	if r.b.Log().Durable() != 1 {
		t.Error("the log was flushed")
	}
}

func TestNoPage(t *testing.T) { // P22.1
	r := rigOf(t, 8, 3, 5, 64)
	r.grow(2, 1, 2)
	r.still("no page", func() {
		n := r.d.Ops()
		for _, no := range []uint16{3, 4, 5, 8, 256, 258, 1 << 15, math.MaxUint16} {
			for _, h := range []uint32{0, 1, 2, 3, math.MaxUint32} {
				r.wantNoCut("no page", no, h, api.ErrArg)
			}
		}
		r.wantOps("no page", n)
	})
}

func TestCutOne(t *testing.T) { // P22.1: of a page with one version all can be seen
	for _, ts := range []uint32{0, 1, 7, math.MaxUint32} {
		r := rigOf(t, 8, 3, 3, 64)
		r.change(dataEnd(1, ts))
		// Where Page is 0 there is none ahead, whatever the slot is.
		r.change(api.Rec{Kind: api.RData, Page: data(2), Ts: ts, Prev: at(0, 3)})
		r.still("one version", func() {
			for _, h := range []uint32{0, 1, 6, 7, 8, math.MaxUint32} {
				for no := range uint16(3) {
					r.wantCut("one version", no, h)
				}
			}
		})
	}
}

func TestCutTimes(t *testing.T) { // P22.1: timestamps are numbers of 32 bits without a sign
	list := []uint32{0, 1, 1<<31 - 1, 1 << 31, math.MaxUint32 - 1, math.MaxUint32}
	for i, h := range list {
		r := rigOf(t, 8, 2, 2, 64)
		want := []api.Version{{}}
		for n, ts := range list[1:] {
			r.install(1, ts, bodyOf(n))
			want = append([]api.Version{version(ts, bodyOf(n))}, want...)
		}
		r.wantOneCut(1, h, want)
		r.wantVersions("great timestamps", 1, want[:len(want)-i]...)
	}
}

func TestCutAgain(t *testing.T) { // P22.1: cut once more, with the same horizon, a lower one, and a higher one
	r, refs := scattered(t, 12)
	r.wantCut("Cut", 1, 3, refs[3:]...)
	r.still("again", func() {
		for h := range uint32(4) {
			r.wantCut("again", 1, h)
		}
	})
	r.laid("higher", func() { r.wantCut("higher", 1, 5, refs[1:3]...) }, cutAt(refs[0]))
	r.laid("highest", func() { r.wantCut("highest", 1, 9, refs[0]) }, dataEnd(1, 6))
	r.still("again", func() { r.wantCut("again", 1, 9) })
	r.wantVersions("highest", 1, wholes(6)...)
	r.wantOrphans("all of them", at(1, 0), at(1, 1), at(2, 0), at(2, 1), at(3, 0), at(3, 1))
}

func TestCutGoesOn(t *testing.T) { // P22.1, P21.3: a page that was cut has further versions
	r := rigOf(t, 8, 3, 3, 64)
	r.grow(1, 2, 5, 9)
	r.wantCut("Cut", 1, 6, at(1, 1), at(1, 0))
	r.grow(1, 11)
	r.wantVersions("grown", 1, grown(11, 9, 5)...)
	for range 2 {
		r.want("Pop", commit.Pop(r.b, 1), api.OK)
	}
	r.wantVersions("popped", 1, grown(5)...)
	r.want("Pop", commit.Pop(r.b, 1), api.ErrArg)
	r.wantOrphans("popped", at(1, 0), at(1, 1))
}

// broken is a store whose page 1 has the versions 9, 5 and 2, behind which, or behind one of which, all is broken.
func broken(t *testing.T, at int, spoil func(prev *api.Ref, o *api.Old)) *rig {
	t.Helper()
	r := rigOf(t, 8, 3, 3, 64)
	d := api.Data{Ts: 9, Prev: api.Ref{Page: 2}}
	list := []api.Old{
		{Page: 1, Ts: 5, Next: api.Ref{Page: 2, Slot: 1}, Delta: "\x00\x01a"},
		{Page: 1, Ts: 2, Next: api.Ref{Page: 2, Slot: 2}, Delta: "\x01\x01b"},
		{Page: 1, Ts: 1, Delta: "\x02\x01c"},
	}
	prev := &d.Prev
	if at > 0 {
		prev = &list[at-1].Next
	}
	spoil(prev, &list[at])
	for i, o := range list {
		r.stray(1, uint8(i), o)
	}
	r.change(api.Rec{Kind: api.RData, Page: data(1), Ts: d.Ts, Prev: d.Prev})
	r.grow(0, 3)
	r.grow(2, 3)
	return r
}

func spoils() map[string]func(prev *api.Ref, o *api.Old) {
	return map[string]func(prev *api.Ref, o *api.Old){
		"no such undo page":   func(prev *api.Ref, _ *api.Old) { prev.Page = 4 },
		"the last undo page":  func(prev *api.Ref, _ *api.Old) { prev.Page = math.MaxUint16 },
		"no such slot":        func(prev *api.Ref, _ *api.Old) { prev.Slot = 3 },
		"no record":           func(prev *api.Ref, _ *api.Old) { *prev = api.Ref{Page: 3} },
		"another page's":      func(_ *api.Ref, o *api.Old) { o.Page = 2 },
		"no older":            func(_ *api.Ref, o *api.Old) { o.Ts = 9 },
		"newer":               func(_ *api.Ref, o *api.Old) { o.Ts = 10 },
		"a Delta that's none": func(_ *api.Ref, o *api.Old) { o.Delta = "a" },
	}
}

func TestCutBroken(t *testing.T) { // P22.1: wherever it is broken, ahead of the horizon or behind it
	for name, spoil := range spoils() {
		for i := range 3 {
			r := broken(t, i, spoil)
			r.still(name, func() {
				for _, h := range []uint32{0, 1, 2, 3, 5, 8, 9, 10, math.MaxUint32} {
					r.wantNoCut(name, 1, h, api.ErrForm)
				}
			})
			r.wantHeld(name)
			r.wantCut("another page", 0, 3, r.newest(0).Prev)
		}
	}
	r := broken(t, 1, func(*api.Ref, *api.Old) {})
	r.wantCut("a whole one", 1, 4, at(2, 2))
}

func TestCutLogFull(t *testing.T) { // P22.1: of the log there is room for the change, or not quite
	for h, x := range map[uint32]api.Rec{6: cutAt(at(1, 2)), 9: dataEnd(1, 9)} {
		n := frameLen(x)
		for _, left := range []int{0, 1, n - 1, n, n + 1} {
			r := rigOf(t, 8, 3, 3, 6)
			r.grow(1, 2, 5, 9)
			r.fill(left)
			if left < n {
				r.still("a full log", func() { r.wantNoCut("a full log", 1, h, api.ErrFull) })
				r.wantVersions("a full log", 1, grown(9, 5, 2, 0)...)
				r.wantOrphans("a full log")
			} else {
				end := r.b.Log().End()
				r.wantCut("room for one", 1, h, []api.Ref{at(1, 2), at(1, 1), at(1, 0)}[(9-h)/3:]...)
				if got := int(r.b.Log().End() - end); got != n {
					t.Errorf("%d bytes were laid, want %d", got, n)
				}
			}
			r.still("nothing to cut", func() { r.wantCut("nothing to cut", 1, 1) })
			r.wantHeld("a full log")
		}
	}
}

// oneFrame leaves a store just one frame that isn't held, with a page in it that nobody wants.
func (r *rig) oneFrame() []api.PageID {
	r.t.Helper()
	held := []api.PageID{data(3), data(4), data(5)}
	r.hold(held...)
	for _, id := range pagesOf(r.f) {
		r.see(id)
	}
	r.see(data(2))
	if len(r.b.Cache().Dirty()) != 0 {
		r.t.Fatal("a page is dirty still")
	}
	r.d.Plan(nil, 0)
	return held
}

func TestCutOneFrame(t *testing.T) { // P22.1: no page is held while another one is wanted
	r, refs := scattered(t, 4)
	held := r.oneFrame()
	r.wantCut("one frame", 1, 0)
	// The data page, and the undo page of each place, but where two are in the same one.
	r.wantOps("all is gone through once", 6)
	r.wantCut("one frame", 1, 3, refs[3:]...)
	r.wantCut("one frame", 1, 6, refs[:3]...)
	r.wantVersions("one frame", 1, wholes(6)...)
	r.want("Pass", Pass(r.b, 6), api.OK)
	r.wantLive("one frame")
	r.wantHeld("one frame", held...)
}

func TestCutFails(t *testing.T) { // P22.1, P22.4: at each operation
	for _, h := range []uint32{2, 3, 5, 6} {
		r, refs := scattered(t, 4)
		r.oneFrame()
		r.wantCut("no failure", 1, h, refs[6-h:]...)
		n := r.d.Ops() // the pages, and the one that is changed once more
		if n != 7 {
			t.Errorf("Cut at %d takes %d operations", h, n)
		}
		for k := 1; k <= n; k++ {
			for _, plan := range failures(k) {
				r, refs := scattered(t, 4)
				held := r.oneFrame()
				end := r.b.Log().End()
				r.d.Plan(plan.fails, plan.fuse)
				r.wantNoCut("a failure", 1, h, plan.want)
				r.wantOps("a failure", k)
				r.wantHeld("a failure", held...)
				r.d.Crash(nil)
				if r.b.Log().End() != end {
					t.Errorf("behind a failure at %d something was laid", k)
				}
				r.wantVersions("a failure", 1, wholes(6, 5, 4, 3, 2, 1, 0)...)
				r.wantCut("again", 1, h, refs[6-h:]...)
				r.wantVersions("again", 1, wholes(6, 5, 4, 3, 2, 1, 0)[:7-h]...)
			}
		}
	}
}

func TestNoFrame(t *testing.T) { // P22.1, P22.2, P22.3
	r, refs := scattered(t, 4)
	held := append(r.oneFrame(), data(1))
	r.hold(data(1))
	end := r.b.Log().End()
	r.wantNoCut("the record's page isn't resident", 1, 3, api.ErrNoFrame)
	r.wantNoCut("the page isn't", 0, 3, api.ErrNoFrame)
	r.wantNoCut("no page", 6, 3, api.ErrArg)
	r.wantCut("of one version nothing more is wanted", 3, 3)
	r.wantNoOrphans("no frame", api.ErrNoFrame)
	r.want("Pass", Pass(r.b, 3), api.ErrNoFrame)
	if r.b.Log().End() != end {
		t.Error("something was laid")
	}
	r.wantHeld("no frame", held...)
	r.b.Cache().Unpin(data(1))
	r.wantCut("a frame", 1, 3, refs[3:]...)
}

func TestOrphansNone(t *testing.T) { // P22.2: no live record, and live ones all of which are in a chain
	r := rigOf(t, 8, 3, 3, 64)
	r.still("no record", func() { r.wantOrphans("no record") })
	r.grow(1, 2, 5, 9)
	r.grow(2, 3)
	r.grow(0, 1, 2)
	r.still("all in chains", func() { r.wantOrphans("all in chains") })
	r.wantHeld("Orphans")
	s, _ := scattered(t, 4)
	s.still("all in chains", func() { s.wantOrphans("all in chains") })
}

// strays is a store in which some records are in no chain, and told like some that are.
func strays(t *testing.T) (*rig, []api.Ref) {
	t.Helper()
	r := rigOf(t, 8, 3, 4, 64)
	r.stray(2, 0, api.Old{Page: 1, Ts: 2})
	r.grow(1, 2, 5)                                                                   // slots 0 and 1 of the page 0
	r.stray(0, 2, api.Old{Page: 1, Ts: 2, Next: at(1, 0), Delta: r.olds(0)[1].Delta}) // the same as one that is in a chain
	r.grow(2, 3)                                                                      // the slot 3
	r.stray(1, 0, api.Old{Page: 2, Ts: 0, Next: at(1, 3)})
	r.stray(1, 1, api.Old{Page: math.MaxUint16, Ts: math.MaxUint32, Next: at(9, 9), Delta: "no delta"})
	r.stray(1, 2, api.Old{Page: 0, Next: at(2, 0)}) // a stray's next one is a stray, too
	r.grow(1, 9)
	r.stray(0, 5, api.Old{})
	return r, []api.Ref{at(1, 2), at(1, 5), at(2, 0), at(2, 1), at(2, 2), at(3, 0)}
}

func TestOrphans(t *testing.T) { // P22.2: some in no chain, in the room's order
	r, lost := strays(t)
	r.wantVersions("strays", 1, grown(9, 5, 2, 0)...)
	r.still("strays", func() { r.wantOrphans("strays", lost...) })
	got, _ := Orphans(r.b)
	clear(got[:cap(got)])
	r.wantOrphans("again", lost...)
	r.want("Free", commit.Free(r.b, lost[3]), api.OK)
	r.wantOrphans("one is freed", slices.Delete(lost, 3, 4)...)
	r.wantHeld("strays")
}

func TestOrphansCut(t *testing.T) { // P22.2: records of a version that was cut
	r, refs := scattered(t, 12)
	r.wantCut("Cut", 1, 3, at(3, 0), at(2, 0), at(1, 1))
	r.wantOrphans("cut", at(1, 1), at(2, 0), at(3, 0))
	r.wantCut("Cut", 0, 4, r.newest(0).Prev)
	r.wantOrphans("cut", at(1, 1), at(2, 0), at(3, 0), at(4, 0))
	r.want("Free", commit.Free(r.b, at(2, 0)), api.OK)
	r.wantOrphans("freed", at(1, 1), at(3, 0), at(4, 0))
	r.wantCut("Cut", 1, 6, refs[:3]...)
	r.wantOrphans("all", at(1, 0), at(1, 1), at(2, 1), at(3, 0), at(3, 1), at(4, 0))
}

func TestOrphansOfTheRoom(t *testing.T) { // P22.2: those that the room knows, whatever the pages hold
	r, lost := strays(t)
	r.b.Room().Note(1, api.Undo{})
	r.wantOrphans("not known", at(1, 2), at(1, 5), at(3, 0))
	r.b.Room().Note(3, api.Undo{Olds: []api.Old{{}, {Live: true}, {}, {Live: true, Page: 1}}})
	r.wantOrphans("not there", at(1, 2), at(1, 5), at(3, 0), at(4, 1), at(4, 3))
	for no := range 4 {
		r.b.Room().Note(no, api.Undo{})
	}
	r.wantOrphans("nothing is known")
	r.want("Learn", r.b.Learn(), api.OK)
	r.wantOrphans("learnt", lost...)
}

func TestOrphansBroken(t *testing.T) { // P22.2
	for name, spoil := range spoils() {
		for i := range 3 {
			r := broken(t, i, spoil)
			r.stray(2, 0, api.Old{})
			r.still(name, func() { r.wantNoOrphans(name, api.ErrForm) })
			r.wantHeld(name)
		}
	}
	r := broken(t, 1, func(*api.Ref, *api.Old) {})
	r.stray(2, 0, api.Old{})
	r.wantOrphans("a whole one", at(3, 0))
}

// Of two pages that have an error each, the first one's is the answer.
func TestOrphansFirst(t *testing.T) { // P22.2
	for wrong, want := range map[uint16]api.Errno{1: api.ErrForm, 4: api.ErrIO} {
		r, _ := scattered(t, 4)
		r.change(api.Rec{Kind: api.RData, Page: data(wrong), Ts: 9, Prev: at(9, 9)})
		for _, id := range append(pagesOf(r.f), data(0), undo(3), data(1)) {
			r.see(id)
		}
		if !r.b.Cache().Resident(data(0)) || !r.b.Cache().Resident(undo(3)) || !r.b.Cache().Resident(data(1)) || r.b.Cache().Resident(data(2)) {
			t.Fatal("other pages are resident")
		}
		r.d.Plan([]int{1, 2, 3, 4}, 0) // what isn't resident can't be read
		r.wantNoOrphans("the first error", want)
	}
}

func TestOrphansFail(t *testing.T) { // P22.2: at each operation
	set := func() (*rig, []api.PageID) {
		r, _ := scattered(t, 4)
		r.want("Pass", Pass(r.b, 3), api.OK)
		r.stray(0, 1, api.Old{Page: 1})
		return r, r.oneFrame()
	}
	r, _ := set()
	r.wantOrphans("no failure", at(1, 1))
	n := r.d.Ops()
	if n < 7 {
		t.Errorf("Orphans takes just %d operations", n)
	}
	for k := 1; k <= n; k++ {
		for _, plan := range failures(k) {
			r, held := set()
			r.d.Plan(plan.fails, plan.fuse)
			r.wantNoOrphans("a failure", plan.want)
			r.wantOps("a failure", k)
			r.wantHeld("a failure", held...)
			r.d.Crash(nil)
			r.wantOrphans("again", at(1, 1))
		}
	}
}

func TestPassNothing(t *testing.T) { // P22.3: no page to be cut
	r := rigOf(t, 8, 3, 3, 64)
	r.still("blank", func() { r.want("Pass", Pass(r.b, 0), api.OK) })
	r.still("blank", func() { r.want("Pass", Pass(r.b, math.MaxUint32), api.OK) })
	r.grow(1, 2, 5, 9)
	r.grow(2, 3)
	r.still("all can be seen", func() { r.want("Pass", Pass(r.b, 0), api.OK) })
	r.still("all can be seen", func() { r.want("Pass", Pass(r.b, 1), api.OK) })
	r.wantVersions("all can be seen", 1, grown(9, 5, 2, 0)...)
	r.wantVersions("all can be seen", 2, grown(3, 0)...)
}

func TestPassAll(t *testing.T) { // P22.3: all pages to be cut, what is laid, and in which order
	for _, h := range []uint32{6, 7, math.MaxUint32} {
		r, _ := scattered(t, 12)
		r.grow(2, 5)
		r.touch(3)
		live := r.live()
		want := []api.Rec{dataEnd(0, 4), dataEnd(1, 6), dataEnd(2, 5)}
		for _, x := range live {
			want = append(want, freeAt(x))
		}
		r.laid("Pass", func() { r.want("Pass", Pass(r.b, h), api.OK) }, want...)
		r.wantVersions("Pass", 0, wholes(4)...)
		r.wantVersions("Pass", 1, wholes(6)...)
		r.wantVersions("Pass", 2, grown(5)...)
		r.wantVersions("Pass", 3, api.Version{})
		r.wantLive("Pass")
		r.wantHeld("Pass")
		r.wantNeeded("Pass", h)
	}
}

// touch makes an undo page dirty, so that what is done with it is laid as the record itself.
func (r *rig) touch(no uint16) {
	r.t.Helper()
	slot := r.spare(no)
	r.stray(no, slot, api.Old{})
	r.change(freeAt(at(no+1, slot)))
}

func TestPassSome(t *testing.T) { // P22.3
	r, refs := scattered(t, 12)
	r.laid("Pass", func() { r.want("Pass", Pass(r.b, 3), api.OK) },
		cutAt(refs[2]), freeAt(at(1, 1)), freeAt(at(2, 0)), freeAt(at(3, 0)))
	r.wantVersions("Pass", 0, wholes(4, 0)...) // 0 is the newest one up to 3
	r.wantVersions("Pass", 1, wholes(6, 5, 4, 3)...)
	r.wantLive("Pass", at(1, 0), at(2, 1), at(3, 1), at(4, 0))
	r.wantNeeded("Pass", 3)
	r.still("again", func() {
		for h := range uint32(4) {
			r.want("Pass again", Pass(r.b, h), api.OK)
		}
	})
	r.laid("higher", func() { r.want("Pass", Pass(r.b, 4), api.OK) },
		dataEnd(0, 4), cutAt(refs[1]), freeAt(at(3, 1)), freeAt(at(4, 0)))
	r.wantNeeded("higher", 4)
}

func TestPassStrays(t *testing.T) { // P22.3: records that were in no chain ahead of it
	r, lost := strays(t)
	var want []api.Rec
	for _, x := range lost {
		want = append(want, freeAt(x))
	}
	r.laid("Pass", func() { r.want("Pass", Pass(r.b, 1), api.OK) }, want...)
	r.wantVersions("Pass", 1, grown(9, 5, 2, 0)...)
	r.wantVersions("Pass", 2, grown(3, 0)...)
	r.wantLive("Pass", at(1, 0), at(1, 1), at(1, 3), at(1, 4))
	r.wantOrphans("Pass")
	r, _ = strays(t)
	r.want("Pass", Pass(r.b, 5), api.OK)
	r.wantVersions("Pass", 1, grown(9, 5)...)
	r.wantVersions("Pass", 2, grown(3)...)
	r.wantLive("Pass", at(1, 4))
}

func TestPassCutError(t *testing.T) { // P22.3: the first error of Cut; pages ahead of it are cut, nothing is freed
	for name, spoil := range spoils() {
		r := broken(t, 1, spoil)
		r.stray(2, 0, api.Old{})
		live := r.live()
		first := r.newest(0).Prev
		r.laid(name, func() { r.want(name, Pass(r.b, 9), api.ErrForm) }, dataEnd(0, 3))
		r.wantVersions(name, 0, grown(3)...)
		r.wantVersions(name, 2, grown(3, 0)...)
		r.wantLive(name, live...)
		r.wantHeld(name)
		if !slices.Contains(live, first) {
			t.Errorf("%s: %v was freed", name, first)
		}
	}
}

func TestPassOrphansError(t *testing.T) { // P22.3: the cuts are done, nothing is freed
	set := func() *rig {
		r, _ := scattered(t, 4)
		r.oneFrame()
		return r
	}
	r := set()
	for no := range uint16(6) {
		Cut(r.b, no, 3)
	}
	n := r.d.Ops()
	r.wantOrphans("no failure", at(1, 1), at(2, 0), at(3, 0))
	m := r.d.Ops()
	if m < n+5 {
		t.Errorf("Orphans takes just %d operations", m-n)
	}
	for k := n + 1; k <= m; k++ {
		for _, plan := range failures(k) {
			r := set()
			live := r.b.Room().Refs()
			r.d.Plan(plan.fails, plan.fuse)
			r.want("Pass", Pass(r.b, 3), plan.want)
			r.wantOps("a failure", k)
			r.d.Crash(nil)
			r.wantLive("a failure", live...)
			r.wantVersions("a failure", 1, wholes(6, 5, 4, 3)...)
			r.want("Pass again", Pass(r.b, 3), api.OK)
			r.wantNeeded("again", 3)
		}
	}
}

func TestPassLogFull(t *testing.T) { // P22.3: of the log there is room for none of the changes, or some, or all
	// Two cuts, of 17 bytes, and five frees, of 10.
	set, gone := frameLen(dataEnd(0, 4)), frameLen(freeAt(at(1, 0)))
	for left := 0; left <= 2*set+5*gone+1; left++ {
		r := rigOf(t, 12, 3, 3, 12)
		r.grow(0, 1, 2)
		r.grow(1, 3, 4, 5)
		r.fill(left)
		pages, records := min(left/set, 2), 5
		if pages == 2 {
			records -= min((left-2*set)/gone, 5)
		}
		want := api.ErrFull
		if records == 0 {
			want = api.OK
		}
		when := []uint32{5, 6}
		before := r.seen(5, when)
		r.want("Pass", Pass(r.b, 5), want)
		r.wantVersions("a full log", 0, grown(2, 1, 0)[:3-2*min(pages, 1)]...)
		r.wantVersions("a full log", 1, grown(5, 4, 3, 0)[:4-3*(pages/2)]...)
		r.wantLive("a full log", []api.Ref{at(1, 0), at(1, 1), at(1, 2), at(1, 3), at(1, 4)}[5-records:]...)
		if !slices.Equal(r.seen(5, when), before) {
			t.Errorf("with %d bytes left something is seen otherwise", left)
		}
		r.wantHeld("a full log")
		r.want("Flush", r.b.Log().Flush(), api.OK)
		r.b.Log().Trim(r.b.Log().End())
		r.want("Pass with room", Pass(r.b, 5), api.OK)
		r.wantNeeded("with room", 5)
	}
}

func TestPassFreeError(t *testing.T) { // P22.3: those ahead of it are freed, none behind it is
	r, lost := strays(t)
	u := r.b.Room().Page(1)
	u.Olds = append(u.Olds, api.Old{}, api.Old{Live: true}) // which isn't there
	r.b.Room().Note(1, u)
	r.wantOrphans("a room that is wrong", slices.Insert(slices.Clone(lost), 5, at(2, 4))...)
	var want []api.Rec
	for _, x := range lost[:4] {
		want = append(want, freeAt(x))
	}
	// By the first change of the undo page 1 the room knows better.
	want = append(want, freeAt(lost[4]))
	r.laid("Pass", func() { r.want("Pass", Pass(r.b, 1), api.ErrForm) }, want...)
	r.wantLive("Pass", at(1, 0), at(1, 1), at(1, 3), at(1, 4), at(3, 0))
	r.wantVersions("Pass", 1, grown(9, 5, 2, 0)...)
	r.laid("again", func() { r.want("Pass", Pass(r.b, 1), api.OK) }, freeAt(at(3, 0)))
}

func TestNil(t *testing.T) { // P22.1, P22.2, P22.3, and what chapter 20 says of nil parts
	for _, h := range []uint32{0, 1, math.MaxUint32} {
		for _, no := range []uint16{0, 1, math.MaxUint16} {
			if l, e := Cut(nil, no, h); len(l) != 0 || e != api.ErrArg {
				t.Errorf("Cut = %v, %d", l, e)
			}
		}
		// There is no data page that could have an error.
		if e := Pass(nil, h); e != api.OK {
			t.Errorf("Pass = %d", e)
		}
	}
	if l, e := Orphans(nil); len(l) != 0 || e != api.OK {
		t.Errorf("Orphans = %v, %d", l, e)
	}
}

func TestWithoutPower(t *testing.T) { // P22.1, P22.2, P22.3
	r, _ := scattered(t, 4)
	r.oneFrame()
	r.d.Plan(nil, 1)
	r.d.Sync()
	for range 2 {
		r.wantNoCut("no power", 1, 3, api.ErrDown)
		r.wantNoCut("no page", 6, 3, api.ErrArg)
		r.wantNoOrphans("no power", api.ErrDown)
		r.want("Pass", Pass(r.b, 3), api.ErrDown)
	}
	r.d.Crash(nil)
	r.want("Pass", Pass(r.b, 3), api.OK)
	r.wantNeeded("the power is on", 3)
}

func TestAlone(t *testing.T) { // rule 6
	a, _ := scattered(t, 8)
	b, refs := scattered(t, 5)
	a.want("Pass", Pass(a.b, 9), api.OK)
	a.wantLive("one")
	b.wantVersions("the other", 1, wholes(6, 5, 4, 3, 2, 1, 0)...)
	b.wantCut("the other", 1, 5, refs[1:]...)
	a.wantOrphans("one")
}

func TestRoomAgain(t *testing.T) { // P22.3: behind a Pass there is room for what was refused
	r := rigOf(t, 5, 2, 2, 400)
	ts := uint32(0)
	for range 20 {
		e := api.OK
		for e == api.OK {
			ts++
			e = commit.Install(r.b, uint16(ts%2), ts, wholeOf(int(ts)))
		}
		r.want("Install", e, api.ErrFull)
		r.want("Pass", Pass(r.b, ts), api.OK)
		r.wantLive("Pass")
		r.install(uint16(ts%2), ts, wholeOf(int(ts)))
	}
}

// The greatest store whose undo pages are full: one page has all versions.
func TestGreatest(t *testing.T) { // P22.1, P22.3
	n := api.MaxUndo * api.MaxSlots
	for _, h := range []int{0, 1, n / 2, n - 1, n} {
		r := rigOf(t, api.MinFrames, api.MaxPages, api.MaxUndo, api.MaxLog)
		for ts := range n {
			r.install(15, uint32(ts+1), api.Body{})
		}
		want := r.seen(uint32(h), []uint32{uint32(h), uint32(n)})
		r.want("Pass", Pass(r.b, uint32(h)), api.OK)
		if r.b.Room().Live() != n-h || !slices.Equal(r.seen(uint32(h), []uint32{uint32(h), uint32(n)}), want) {
			t.Errorf("from %d on %d records are left", h, r.b.Room().Live())
		}
		r.wantNeeded("the greatest", uint32(h))
	}
}
