package hist

import (
	"cmp"
	"slices"

	"varve/api"
)

// step leads from one transaction to another one.
type step [2]int

// history is the transactions that are done, and what is between them.
type history struct {
	list    []api.Past
	writers map[api.Seen]int    // who has committed a version
	commits map[uint16][]uint32 // the timestamps of a page's versions, rising
	depends map[step]struct{}   // from one to one who depends on it
	passes  map[step]struct{}   // from one to one who is passed by it
}

// isHistory tells whether a list is a history.
func isHistory(l []api.Past) bool {
	taken := make(map[uint32]struct{})
	for _, p := range l {
		if !commits(p) {
			continue
		}
		if _, ok := taken[p.Commit]; ok || p.Commit <= p.Start {
			return false
		}
		taken[p.Commit] = struct{}{}
	}
	return true
}

// commits tells whether a transaction has committed a version.
func commits(p api.Past) bool {
	return p.Done && len(p.Writes) > 0
}

// end is when a transaction that is done was over.
func end(p api.Past) uint32 {
	if commits(p) {
		return p.Commit
	}
	return p.Start
}

// gather finds out who depends on whom, and who is passed by whom.
func gather(l []api.Past) *history {
	h := &history{
		writers: make(map[api.Seen]int),
		commits: make(map[uint16][]uint32),
		depends: make(map[step]struct{}),
		passes:  make(map[step]struct{}),
	}
	for _, p := range l {
		if p.Done {
			h.list = append(h.list, p)
		}
	}
	// By their starts, so that whom one is ahead of stand one behind the other.
	slices.SortStableFunc(h.list, func(a, b api.Past) int { return cmp.Compare(a.Start, b.Start) })
	h.findVersions()
	for v, writer := range h.writers {
		if next, ok := h.next(v); ok {
			put(h.depends, writer, next)
		}
	}
	for i, p := range h.list {
		for _, v := range p.Reads {
			h.findRead(i, v)
		}
	}
	return h
}

// findVersions notes who has committed which versions.
func (h *history) findVersions() {
	for i, p := range h.list {
		for _, page := range p.Writes {
			h.writers[api.Seen{Page: page, Ts: p.Commit}] = i
		}
	}
	for v := range h.writers {
		h.commits[v.Page] = append(h.commits[v.Page], v.Ts)
	}
	for _, list := range h.commits {
		slices.Sort(list)
	}
}

// next is who has committed the next version of a page behind one.
func (h *history) next(v api.Seen) (int, bool) {
	list := h.commits[v.Page]
	i, ok := slices.BinarySearch(list, v.Ts)
	if ok {
		i++
	}
	if i == len(list) {
		return 0, false
	}
	return h.writers[api.Seen{Page: v.Page, Ts: list[i]}], true
}

// findRead notes on whom a reader depends, and by whom they are passed.
func (h *history) findRead(reader int, v api.Seen) {
	writer, ok := h.writers[v]
	if ok {
		put(h.depends, writer, reader)
	}
	if !ok && v.Ts != 0 {
		return // there is no such version, and so none behind it
	}
	if next, ok := h.next(v); ok {
		put(h.passes, next, reader)
	}
}

// put keeps a step, unless it leads from one to the same one.
func put(steps map[step]struct{}, from, to int) {
	if from != to {
		steps[step{from, to}] = struct{}{}
	}
}
