package hist

import (
	"cmp"
	"slices"

	"varve/api"
)

// aborted tells whether a version was read that nobody has committed.
func (h *history) aborted() bool {
	for _, p := range h.list {
		for _, v := range p.Reads {
			if _, ok := h.writers[v]; !ok && v.Ts != 0 {
				return true
			}
		}
	}
	return false
}

// circle tells whether steps to who depends on one go round.
// Whoever no step leads to is in no circle: with them their steps are taken away, till all are gone or a circle is left.
func (h *history) circle() bool {
	into := make([]int, len(h.list))
	for s := range h.depends {
		into[s[1]]++
	}
	var gone []int
	for i, n := range into {
		if n == 0 {
			gone = append(gone, i)
		}
	}
	follow := h.followers()
	for k := 0; k < len(gone); k++ {
		for _, to := range follow[gone[k]] {
			if into[to]--; into[to] == 0 {
				gone = append(gone, to)
			}
		}
	}
	return len(gone) < len(h.list)
}

// interfering tells whether somebody depends on one who isn't ahead of them.
func (h *history) interfering() bool {
	for s := range h.depends {
		if end(h.list[s[0]]) > h.list[s[1]].Start {
			return true
		}
	}
	return false
}

// missed tells whether one comes to somebody from one by whom they are passed.
func (h *history) missed() bool {
	passed := make(map[int][]int)
	for s := range h.passes {
		passed[s[0]] = append(passed[s[0]], s[1])
	}
	follow := h.followers()
	for from, list := range passed {
		come := h.reach(follow, from)
		if slices.ContainsFunc(list, func(to int) bool { return come[to] }) {
			return true
		}
	}
	return false
}

// followers is of each one who depends on it.
func (h *history) followers() [][]int {
	list := make([][]int, len(h.list))
	for s := range h.depends {
		list[s[0]] = append(list[s[0]], s[1])
	}
	return list
}

// reach tells to whom one comes from one, by steps to who depends on one, and to whom one is ahead of.
func (h *history) reach(follow [][]int, from int) []bool {
	come := make([]bool, len(h.list))
	come[from] = true
	way := []int{from}
	visit := func(i int) {
		if !come[i] {
			come[i] = true
			way = append(way, i)
		}
	}
	behind := len(h.list) // from there on all were come to
	for k := 0; k < len(way); k++ {
		for _, to := range follow[way[k]] {
			visit(to)
		}
		first := h.firstBehind(end(h.list[way[k]]))
		for ; behind > first; behind-- {
			visit(behind - 1)
		}
	}
	return come
}

// firstBehind is where the first one stands that starts at a timestamp or behind it.
func (h *history) firstBehind(ts uint32) int {
	i, _ := slices.BinarySearchFunc(h.list, ts, func(p api.Past, ts uint32) int { return cmp.Compare(p.Start, ts) })
	return i
}
