package restart

import (
	"math/rand"
	"slices"
	"testing"

	"varve/api"
	"varve/chain"
	"varve/commit"
	"varve/disk"
	"varve/vacuum"
)

// write is a page's new body.
type write struct {
	no   uint16
	body api.Body
}

// act is a step of a run: a commit of some pages, or something that changes no answer.
type act struct {
	kind   int
	writes []write
	page   api.PageID
}

const (
	aCommit  = iota // versions are installed, and it is committed
	aAbort          // versions are installed, and taken back
	aInstall        // versions are installed, as of a commit that is under way when the run ends
	aWrite          // a page is written back
	aMark
	aPass // a vacuum
)

// life is a store's run, and what was committed in it, and in those ahead of it.
type life struct {
	t    *testing.T
	d    *disk.Disk
	s    *State
	c    api.Config
	done [][]api.Version // each page's versions, the newest first, that were committed
	last uint32
	// A commit that is under way: what all pages will be like.
	under [][]api.Version
	asked bool // base.Commit was called, so that it may be done
	over  bool // the store is halted
}

func lifeOf(t *testing.T, c api.Config, frames int) *life {
	t.Helper()
	r := fresh(t, c, frames)
	l := &life{t: t, d: r.d, s: r.s, c: c}
	for range c.Pages {
		l.done = append(l.done, []api.Version{{}})
	}
	return l
}

// install gives pages versions with the next timestamp; false, if it can't be done: then they are taken back.
func (l *life) install(list []write) bool {
	l.t.Helper()
	b := l.s.Base()
	l.under, l.asked = slices.Clone(l.done), false
	for i, w := range list {
		if e := commit.Install(b, w.no, l.last+1, w.body); e != api.OK {
			l.pop(list[:i])
			return false
		}
		l.under[w.no] = append([]api.Version{version(l.last+1, w.body)}, l.done[w.no]...)
	}
	return true
}

// pop takes back what was installed.
func (l *life) pop(list []write) {
	for i := range list {
		if e := commit.Pop(l.s.Base(), list[len(list)-1-i].no); e != api.OK {
			l.over = true
			return
		}
	}
	l.under = nil
}

func (l *life) do(a act) {
	l.t.Helper()
	b := l.s.Base()
	switch a.kind {
	case aCommit, aAbort, aInstall:
		if b.Log().Free() < api.Reserve || l.over || !l.install(a.writes) || a.kind == aInstall {
			return
		}
		if a.kind == aAbort {
			l.pop(a.writes)
			return
		}
		l.asked = true
		if e := b.Commit(l.last + 1); e != api.OK {
			l.over = true
			return
		}
		l.done, l.under, l.asked = l.under, nil, false
		l.last++
	case aWrite:
		b.Cache().Write(a.page)
	case aMark:
		l.s.Mark(l.last)
	case aPass:
		if !l.over && l.under == nil && b.Log().Free() >= api.Reserve {
			vacuum.Pass(b, l.last)
		}
	}
}

// run does a list, as far as the store goes.
func (l *life) run(list []act) {
	l.t.Helper()
	for _, a := range list {
		if l.over || l.d.Down() {
			return
		}
		l.do(a)
	}
}

// found are all pages' versions of a store that was opened.
func found(t *testing.T, s *State, c api.Config) [][]api.Version {
	t.Helper()
	var list [][]api.Version
	for no := range uint16(c.Pages) {
		v, e := chain.Versions(s.Base().Cache(), no)
		if e != api.OK {
			t.Fatalf("the page %d has no versions: %d", no, e)
		}
		list = append(list, v)
	}
	return list
}

// begins tells whether each page's versions are a beginning of what they were, the newest one at least: older ones may be let go.
func begins(got, was [][]api.Version) bool {
	for i, list := range got {
		if len(list) > len(was[i]) || !slices.Equal(list, was[i][:len(list)]) {
			return false
		}
	}
	return true
}

// wantFound opens what a crash has left, and holds it against what was committed; the answer is whether the commit that
// was under way is there.
func (l *life) wantFound(name string, d *disk.Disk, frames int) bool {
	l.t.Helper()
	s, e := Open(d, frames)
	if e != api.OK {
		l.t.Fatalf("%s: Open = %d", name, e)
	}
	r := &rig{t: l.t, d: d, s: s, c: l.c}
	r.wantSettled(name)
	got := found(l.t, s, l.c)
	switch {
	case begins(got, l.done) && s.Master().Last == l.last:
		return false
	case l.asked && begins(got, l.under) && s.Master().Last == l.last+1:
		return true
	}
	l.t.Fatalf("%s: Last is %d, want %d, or the pages aren't as they were behind that: %v", name, s.Master().Last, l.last, shown(got))
	return false
}

// shown are the timestamps of all pages' versions.
func shown(list [][]api.Version) [][]uint32 {
	var all [][]uint32
	for _, v := range list {
		all = append(all, times(v))
	}
	return all
}

// masks are which of n sectors are kept: all, none, each one alone, all but each one, and some.
func masks(n int, x *rand.Rand) [][]bool {
	list := [][]bool{nil}
	if n == 0 {
		return list
	}
	list = append(list, slices.Repeat([]bool{true}, n))
	for i := range min(n, 8) {
		one, others := make([]bool, n), slices.Repeat([]bool{true}, n)
		one[i], others[i] = true, false
		list = append(list, one, others)
	}
	for range 3 {
		list = append(list, some(n, x))
	}
	return list
}

// some is which of n sectors are kept.
func some(n int, x *rand.Rand) []bool {
	keep := make([]bool, n)
	for i := range keep {
		keep[i] = x.Intn(3) > 0
	}
	return keep
}

func writes(list ...write) []write { return list }

// plainRun has commits of one page and of several, of more pages than there are frames, some that are taken back, pages
// that are written back ahead of their commit, marks and a vacuum; the last commit isn't done.
func plainRun() []act {
	return []act{
		{kind: aCommit, writes: writes(write{1, wholeOf(1)})},
		{kind: aCommit, writes: writes(write{0, bodyOf(2)}, write{1, wholeOf(2)}, write{2, bodyOf(2)}, write{4, bodyOf(2)})},
		{kind: aWrite, page: data(1)},
		{kind: aAbort, writes: writes(write{1, wholeOf(9)}, write{3, wholeOf(9)})},
		{kind: aCommit, writes: writes(write{3, wholeOf(3)}, write{4, wholeOf(3)})},
		{kind: aWrite, page: undo(0)},
		{kind: aMark},
		{kind: aCommit, writes: writes(write{3, wholeOf(4)}, write{4, bodyOf(4)})},
		{kind: aPass},
		{kind: aCommit, writes: writes(write{0, wholeOf(5)}, write{1, bodyOf(5)}, write{2, wholeOf(5)})},
		{kind: aInstall, writes: writes(write{0, bodyOf(6)}, write{2, bodyOf(6)}, write{3, bodyOf(6)})},
		{kind: aWrite, page: data(0)},
		{kind: aWrite, page: undo(1)},
		{kind: aMark},
	}
}

func runConfig() api.Config { return api.Config{Pages: 5, Undo: 4, Log: 64, MaxTs: 99} }

// broken is a run at one of whose operations the power goes.
func broken(t *testing.T, frames, fuse int, list []act) *life {
	t.Helper()
	l := lifeOf(t, runConfig(), frames)
	l.d.Plan(nil, fuse)
	l.run(list)
	return l
}

func TestPower(t *testing.T) { // P23.5: the power goes at each operation of a run, whatever is kept
	x := rand.New(rand.NewSource(23))
	done := 0
	for _, frames := range []int{4, 5, 9} {
		whole := broken(t, frames, 0, plainRun())
		if whole.over || whole.last != 5 {
			t.Fatalf("the run comes to %d commits", whole.last)
		}
		n := whole.d.Ops()
		for fuse := 1; fuse <= n+1; fuse++ {
			l := broken(t, frames, fuse, plainRun())
			for _, keep := range masks(l.d.Pending(), x) {
				y := broken(t, frames, fuse, plainRun())
				y.d.Crash(keep)
				if y.wantFound("the power goes", y.d, 4) {
					done++
				}
				// What was found is found again.
				y.d.Crash(nil)
				y.wantFound("opened again", y.d, 5)
			}
		}
	}
	if done < 10 {
		t.Errorf("a commit that was under way was done only %d times", done)
	}
}

// opening is how the power goes while a store is opened: at which operation, and what is kept.
type opening struct {
	fuse int
	keep func(n int) []bool
}

func all(n int) []bool  { return slices.Repeat([]bool{true}, n) }
func none(n int) []bool { return nil }

// leftover is a store that a crash has left, and what it is if it is opened at once.
type leftover struct {
	*life
	pages [][]api.Version
	there bool // the commit that was under way is
}

func leftoverOf(l *life) *leftover {
	l.t.Helper()
	d := copyOf(l.d)
	o := &leftover{life: l, there: l.wantFound("opened at once", d, 4)}
	o.pages = found(l.t, mustOpen(l.t, d), l.c)
	return o
}

// wantSame opens a store for good, and holds it against what it would have been at once.
func (l *leftover) wantSame(name string, d *disk.Disk) {
	l.t.Helper()
	if there := l.wantFound(name, d, 4); there != l.there {
		l.t.Fatalf("%s: the commit that was under way is there: %v, want %v", name, there, l.there)
	}
	if got := found(l.t, mustOpen(l.t, d), l.c); !slices.EqualFunc(got, l.pages, slices.Equal) {
		l.t.Fatalf("%s: the pages are %v, want %v", name, shown(got), shown(l.pages))
	}
}

// reopened opens a copy of the disk, broken off so, one behind the other, and then for good; how many were broken off.
func (l *leftover) reopened(name string, list ...opening) int {
	l.t.Helper()
	d := copyOf(l.d)
	n := 0
	for i, o := range list {
		d.Plan(nil, o.fuse)
		s, e := Open(d, 4+i%3)
		if !d.Down() {
			d.Crash(nil)
			continue
		}
		if n++; s != nil || e != api.ErrDown {
			l.t.Fatalf("%s: broken off, Open = %v, %d", name, s, e)
		}
		d.Crash(o.keep(d.Pending()))
	}
	l.wantSame(name, d)
	return n
}

func mustOpen(t *testing.T, d *disk.Disk) *State {
	t.Helper()
	d.Crash(nil)
	return opened(t, d, 4).s
}

// leftovers are stores that a crash has left, with much to do for an opening, some of them in the midst of a commit.
func leftovers(t *testing.T) []*leftover {
	t.Helper()
	x := rand.New(rand.NewSource(5))
	partly := func(n int) []bool { return some(n, x) }
	n := broken(t, 4, 0, plainRun()).d.Ops()
	var list []*leftover
	add := func(fuse int, keep func(int) []bool) *leftover {
		l := broken(t, 4, fuse, plainRun())
		l.d.Crash(keep(l.d.Pending()))
		list = append(list, leftoverOf(l))
		return list[len(list)-1]
	}
	for _, back := range []int{0, 3, 7, 12, 20} {
		add(n+1-back, partly)
	}
	for fuse := n; ; fuse-- { // the last operation of a commit
		if broken(t, 4, fuse, plainRun()).asked {
			if !add(fuse, all).there || add(fuse, none).there {
				t.Error("what is kept of a commit makes no difference")
			}
			return list
		}
	}
}

func TestPowerOpening(t *testing.T) { // P23.5: the power goes at each operation of Open, again and again
	x := rand.New(rand.NewSource(24))
	partly := func(n int) []bool { return some(n, x) }
	for _, l := range leftovers(t) {
		y := copyOf(l.d)
		Open(y, 4)
		ops := y.Ops()
		for fuse := 1; fuse <= ops; fuse++ {
			for _, keep := range []func(int) []bool{all, none, partly, partly, partly} {
				if l.reopened("once", opening{fuse, keep}) != 1 {
					t.Fatal("it wasn't broken off")
				}
			}
			l.reopened("the same again", slices.Repeat([]opening{{fuse, partly}}, 4)...)
			l.reopened("later and later", opening{fuse, partly}, opening{fuse + 1, partly}, opening{fuse + 2, partly}, opening{fuse + 3, none})
			l.reopened("sooner and sooner", opening{fuse, partly}, opening{fuse - 1, all}, opening{fuse - 2, partly}, opening{fuse - 3, none})
			for range 4 {
				var list []opening
				for range 2 + x.Intn(6) {
					list = append(list, opening{1 + x.Intn(ops), partly})
				}
				l.reopened("anywhere", list...)
			}
		}
	}
}

// Each opening goes a step further than the one ahead of it, till one goes through.
func TestPowerRising(t *testing.T) { // P23.5
	x := rand.New(rand.NewSource(25))
	partly := func(n int) []bool { return some(n, x) }
	for _, l := range leftovers(t) {
		for _, keep := range []func(int) []bool{all, none, partly} {
			var list []opening
			for fuse := range 80 {
				list = append(list, opening{fuse + 1, keep})
			}
			if n := l.reopened("rising", list...); n < 20 || n > 79 {
				t.Errorf("%d openings were broken off", n)
			}
		}
	}
}

// Operations of Open fail, with the power on; it is opened again, with a crash between or without one.
func TestFailuresOpening(t *testing.T) { // P23.5
	x := rand.New(rand.NewSource(26))
	for _, l := range leftovers(t) {
		for range 150 {
			y := copyOf(l.d)
			for range 1 + x.Intn(5) {
				y.Plan([]int{1 + x.Intn(40), 1 + x.Intn(40)}, 0)
				if s, e := Open(y, 4+x.Intn(3)); s == nil && e != api.ErrIO {
					t.Fatalf("Open = %d", e)
				}
				if x.Intn(2) == 0 {
					y.Crash(some(y.Pending(), x))
				}
			}
			y.Plan(nil, 0)
			l.wantSame("failures", y)
		}
	}
}

// randomAct is any step of a run.
func randomAct(x *rand.Rand, c api.Config) act {
	ids := pagesOf(c)
	switch n := x.Intn(20); {
	case n < 11:
		var list []write
		for _, no := range x.Perm(c.Pages)[:1+x.Intn(min(c.Pages, api.MaxWrites))] {
			body := bodyOf(x.Intn(256))
			if x.Intn(2) == 0 {
				body = wholeOf(x.Intn(256))
			}
			list = append(list, write{uint16(no), body})
		}
		return act{kind: max(0, x.Intn(6)-4), writes: list}
	case n < 15:
		return act{kind: aWrite, page: ids[x.Intn(len(ids))]}
	case n < 17:
		return act{kind: aPass}
	}
	return act{kind: aMark}
}

// live uses a store that was opened; perhaps a commit is under way in the end.
func (l *life) live(x *rand.Rand, steps int) {
	l.t.Helper()
	for range steps {
		l.run([]act{randomAct(x, l.c)})
	}
	if !l.over && !l.d.Down() && l.under == nil && x.Intn(3) == 0 {
		a := randomAct(x, l.c)
		if a.kind == aCommit {
			a.kind = aInstall
		}
		l.run([]act{a})
		l.run([]act{{kind: aMark}})
	}
}

func TestManyLives(t *testing.T) { // P23.5: over many lives, with failures, and openings that are broken off
	commits, opens := uint32(0), 0
	for seed := range int64(120) {
		x := rand.New(rand.NewSource(seed))
		c := api.Config{Pages: 1 + x.Intn(6), Undo: 1 + x.Intn(5), Log: 64 + x.Intn(20), MaxTs: 1 << 30}
		l := lifeOf(t, c, 4+x.Intn(4))
		for range 25 {
			var fails []int
			for range x.Intn(3) {
				fails = append(fails, 1+x.Intn(80))
			}
			l.d.Plan(fails, x.Intn(4)*x.Intn(60))
			l.live(x, x.Intn(20))
			l.d.Crash(some(l.d.Pending(), x))
			for x.Intn(2) == 0 {
				l.d.Plan(nil, 1+x.Intn(40))
				Open(l.d, 4+x.Intn(4))
				l.d.Crash(some(l.d.Pending(), x))
				opens++
			}
			if l.wantFound("a life", l.d, 4+x.Intn(4)) {
				l.last++
			}
			l.d.Crash(nil)
			l.s = opened(t, l.d, 4+x.Intn(4)).s
			l.done, l.under, l.asked, l.over = found(t, l.s, c), nil, false, false
		}
		commits += l.last
	}
	if commits < 5000 || opens < 1000 {
		t.Errorf("just %d commits, %d openings that were broken off", commits, opens)
	}
}
