package vacuum

import (
	"math"
	"math/rand"
	"slices"
	"testing"

	"varve/api"
	"varve/apply"
	"varve/cache"
	"varve/commit"
	"varve/seal"
)

// when are times at which it is looked what can be seen: each one up to the last, and later ones.
func when(last uint32) []uint32 {
	var list []uint32
	for ts := range last + 3 {
		list = append(list, ts)
	}
	return append(list, 1<<31, math.MaxUint32)
}

// busy is a store of six pages with versions up to Ts 9, in chains that go through one another, with strays; all lasts.
func busy(t *testing.T, frames int) *rig {
	t.Helper()
	r := rigOf(t, frames, 6, 5, 64)
	r.stray(4, 0, api.Old{Page: 2, Ts: 1})
	for i, no := range []uint16{1, 2, 1, 3, 1, 2, 4, 1, 3} {
		r.install(no, uint32(i+1), wholeOf(i+1))
	}
	for range 2 { // there is room now in the midst
		r.want("Pop", commit.Pop(r.b, 3), api.OK)
	}
	r.change(api.Rec{Kind: api.RData, Page: data(5), Ts: 6}) // its oldest version isn't the first
	r.grow(1, 9)
	r.grow(5, 7, 9)
	r.stray(1, r.spare(1), api.Old{Page: 1, Ts: 1, Next: at(1, 0)})
	r.want("Commit", r.b.Commit(9), api.OK)
	r.d.Plan(nil, 0)
	return r
}

func TestSeen(t *testing.T) { // P22.4: at each time from the horizon on, ahead of and behind a Pass
	for h := range uint32(12) {
		for _, frames := range []int{4, 5, 16} {
			r := busy(t, frames)
			before := r.seen(h, when(9))
			r.want("Pass", Pass(r.b, h), api.OK)
			if !slices.Equal(r.seen(h, when(9)), before) {
				t.Errorf("from %d on something is seen otherwise", h)
			}
			r.wantNeeded("Pass", h)
			r.still("a further one", func() { r.want("a further Pass", Pass(r.b, h), api.OK) })
			r.want("a Pass with a higher horizon", Pass(r.b, h+1), api.OK)
			if !slices.Equal(r.seen(h+1, when(9)), later(before, r.f.Pages)) {
				t.Errorf("from %d on something is seen otherwise", h+1)
			}
		}
	}
}

// later is what is seen of so many pages, but for the first of the times.
func later(list []told, pages int) []told {
	n := len(list) / pages
	var rest []told
	for i, x := range list {
		if i%n != 0 {
			rest = append(rest, x)
		}
	}
	return rest
}

// opsOf is how many operations a Pass takes, if nothing fails.
func opsOf(t *testing.T, frames int, horizon uint32) int {
	t.Helper()
	r := busy(t, frames)
	r.want("Pass", Pass(r.b, horizon), api.OK)
	return r.d.Ops()
}

func TestBrokenOff(t *testing.T) { // P22.3, P22.4: a Pass that fails at each operation, and is done again
	for _, h := range []uint32{0, 3, 5, 8, 9} {
		for _, frames := range []int{4, 5} {
			n, before := opsOf(t, frames, h), busy(t, frames).seen(h, when(9))
			if n < 10 {
				t.Errorf("a Pass takes just %d operations", n)
			}
			for k := 1; k <= n; k++ {
				for _, plan := range failures(k) {
					r := busy(t, frames)
					r.d.Plan(plan.fails, plan.fuse)
					r.want("Pass", Pass(r.b, h), plan.want)
					r.wantOps("a failure", k)
					r.wantHeld("a failure")
					r.d.Crash(nil)
					if !slices.Equal(r.seen(h, when(9)), before) {
						t.Fatalf("behind a failure at %d something is seen otherwise from %d on", k, h)
					}
					r.want("Pass again", Pass(r.b, h), api.OK)
					if !slices.Equal(r.seen(h, when(9)), before) {
						t.Fatalf("behind a failure at %d, and a further Pass, something is seen otherwise from %d on", k, h)
					}
					r.wantNeeded("again", h)
				}
			}
		}
	}
}

// opened is a store as the disk and its log tell it, behind a crash.
func (r *rig) opened(frames int) *rig {
	r.t.Helper()
	list := r.entries()
	var pages []api.Payload
	for _, id := range pagesOf(r.f) {
		_, p, ok := seal.Open(r.d.Sure(cache.Place(r.f.Pages, id)))
		if !ok {
			p = api.Payload{}
		}
		pages = append(pages, apply.Replay(id, p, list))
	}
	x := rigWith(r.t, frames, r.f, pages, r.b.Log().End())
	r.want("Learn", x.b.Learn(), api.OK)
	return x
}

func masks(n int, x *rand.Rand) [][]bool {
	list := [][]bool{nil, slices.Repeat([]bool{true}, n)}
	for range 6 {
		keep := make([]bool, n)
		for i := range keep {
			keep[i] = x.Intn(3) > 0
		}
		list = append(list, keep)
	}
	return list
}

func TestPower(t *testing.T) { // P22.4: the power goes at each operation of a Pass, and behind it
	x := rand.New(rand.NewSource(22))
	for _, h := range []uint32{0, 3, 5, 9} {
		n := opsOf(t, 4, h)
		before := busy(t, 4).seen(h, when(9))
		for fuse := 1; fuse <= n+1; fuse++ {
			try := func() *rig {
				r := busy(t, 4)
				r.d.Plan(nil, fuse)
				if e := Pass(r.b, h); (e == api.OK) != (fuse > n) {
					t.Fatalf("Pass = %d", e)
				}
				return r
			}
			for _, keep := range masks(try().d.Pending(), x) {
				r := try()
				r.d.Crash(keep)
				o := r.opened(4)
				if !slices.Equal(o.seen(h, when(9)), before) {
					t.Fatalf("the power went at %d: from %d on something is seen otherwise", fuse, h)
				}
				o.want("Pass", Pass(o.b, h), api.OK)
				if !slices.Equal(o.seen(h, when(9)), before) {
					t.Fatalf("the power went at %d, and behind a further Pass something is seen otherwise from %d on", fuse, h)
				}
				o.wantNeeded("opened", h)
			}
		}
	}
}
