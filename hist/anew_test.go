package hist

import (
	"math/rand"
	"slices"
	"testing"

	"varve/api"
)

// plain is the chapter told anew, word by word.
type plain []api.Past

func (l plain) is() bool {
	for i, p := range l {
		if !p.Done || len(p.Writes) == 0 {
			continue
		}
		if p.Commit <= p.Start {
			return false
		}
		for j, q := range l {
			if i != j && q.Done && len(q.Writes) > 0 && q.Commit == p.Commit {
				return false
			}
		}
	}
	return true
}

// committed is whether a has committed a version of a page.
func (l plain) committed(a int, page uint16, ts uint32) bool {
	return l[a].Done && l[a].Commit == ts && slices.Contains(l[a].Writes, page)
}

// next is whether b has committed the next version of a page behind a timestamp.
func (l plain) next(b int, page uint16, ts uint32) bool {
	if !l[b].Done || !slices.Contains(l[b].Writes, page) || l[b].Commit <= ts {
		return false
	}
	for _, p := range l {
		if p.Done && slices.Contains(p.Writes, page) && p.Commit > ts && p.Commit < l[b].Commit {
			return false
		}
	}
	return true
}

func (l plain) anybody(page uint16, ts uint32) bool {
	for a := range l {
		if l.committed(a, page, ts) {
			return true
		}
	}
	return false
}

func (l plain) depends(b, a int) bool {
	if a == b || !l[a].Done || !l[b].Done {
		return false
	}
	for _, v := range l[b].Reads {
		if l.committed(a, v.Page, v.Ts) {
			return true
		}
	}
	for _, page := range l[a].Writes {
		if l.next(b, page, l[a].Commit) {
			return true
		}
	}
	return false
}

func (l plain) ahead(a, b int) bool {
	if a == b || !l[a].Done || !l[b].Done {
		return false
	}
	if len(l[a].Writes) > 0 {
		return l[a].Commit <= l[b].Start
	}
	return l[a].Start <= l[b].Start
}

func (l plain) passed(a, b int) bool {
	if a == b || !l[a].Done || !l[b].Done {
		return false
	}
	for _, v := range l[a].Reads {
		if (v.Ts == 0 || l.anybody(v.Page, v.Ts)) && l.next(b, v.Page, v.Ts) {
			return true
		}
	}
	return false
}

// ways is from whom one comes to whom by steps.
func (l plain) ways(step func(a, b int) bool) [][]bool {
	w := make([][]bool, len(l))
	for a := range l {
		w[a] = make([]bool, len(l))
		for b := range l {
			w[a][b] = step(a, b)
		}
	}
	for k := range l {
		for a := range l {
			for b := range l {
				w[a][b] = w[a][b] || w[a][k] && w[k][b]
			}
		}
	}
	return w
}

func (l plain) check() (uint8, api.Errno) {
	if !l.is() {
		return 0, api.ErrArg
	}
	var sum uint8
	by := l.ways(func(a, b int) bool { return l.depends(b, a) })
	by2 := l.ways(func(a, b int) bool { return l.depends(b, a) || l.ahead(a, b) })
	for a := range l {
		for _, v := range l[a].Reads {
			if l[a].Done && v.Ts != 0 && !l.anybody(v.Page, v.Ts) {
				sum |= api.Aborted
			}
		}
		if by[a][a] {
			sum |= api.Circle
		}
		for b := range l {
			if l.depends(b, a) && !l.ahead(a, b) {
				sum |= api.Interfering
			}
			if l.passed(a, b) && by2[b][a] {
				sum |= api.Missed
			}
		}
	}
	return sum, api.OK
}

// anyHistory is a list that often is a history; a tidy one has but few reads and writes that don't belong in it.
func anyHistory(x *rand.Rand) []api.Past {
	n := x.Intn(8)
	pages := 1 + x.Intn(6)
	commits := x.Perm(12)
	tidy := x.Intn(2) == 0
	var l []api.Past
	for i := range n {
		p := api.Past{Start: uint32(x.Intn(10)), Commit: uint32(commits[i] + 1), Done: x.Intn(6) > 0}
		if x.Intn(40) == 0 {
			p.Commit = uint32(x.Intn(6))
		} else if p.Commit <= p.Start {
			p.Start = uint32(x.Intn(int(p.Commit)))
		}
		if tidy {
			p.Start = p.Commit - 1
		}
		for range x.Intn(3) {
			p.Writes = append(p.Writes, uint16(x.Intn(pages)))
		}
		l = append(l, p)
	}
	for i := range l {
		for range x.Intn(3) {
			page := uint16(x.Intn(pages))
			var ts uint32
			for _, q := range l {
				if q.Done && slices.Contains(q.Writes, page) && q.Commit <= l[i].Start {
					ts = max(ts, q.Commit)
				}
			}
			if x.Intn(4) == 0 && len(l) > 0 {
				q := l[x.Intn(len(l))]
				if ts = q.Commit; len(q.Writes) > 0 {
					page = q.Writes[0]
				}
			}
			if x.Intn(9) == 0 {
				ts = uint32(x.Intn(3) * x.Intn(9))
			}
			l[i].Reads = append(l[i].Reads, at(page, ts))
		}
	}
	return l
}

func TestToldAnew(t *testing.T) { // P26.1, P26.3
	sums := make(map[uint8]int)
	none := 0
	for seed := range int64(40000) {
		x := rand.New(rand.NewSource(seed))
		l := anyHistory(x)
		got, e := Check(l)
		want, e2 := plain(l).check()
		if got != want || e != e2 {
			t.Fatalf("seed %d: Check(%+v) = %d, %d, want %d, %d", seed, l, got, e, want, e2)
		}
		x.Shuffle(len(l), func(i, j int) { l[i], l[j] = l[j], l[i] })
		if got, e := Check(l); got != want || e != e2 {
			t.Fatalf("seed %d: Check in another order = %d, %d, want %d, %d", seed, got, e, want, e2)
		}
		if e == api.OK {
			sums[want]++
		} else {
			none++
		}
	}
	for sum := range uint8(16) { // a circle always interferes
		if sum&(api.Circle|api.Interfering) == api.Circle {
			if sums[sum] > 0 {
				t.Errorf("%d was shown", sum)
			}
		} else if sums[sum] < 30 {
			t.Errorf("%d was shown only %d times", sum, sums[sum])
		}
	}
	if none < 100 {
		t.Errorf("only %d lists were no history", none)
	}
}
