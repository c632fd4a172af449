// Package keys puts the keys of maps in order, for the layers that keep things by their numbers.
package keys

import (
	"cmp"
	"slices"
)

// Rising is a map's keys, the least first.
func Rising[K cmp.Ordered, V any](m map[K]V) []K {
	list := make([]K, 0, len(m))
	for k := range m {
		list = append(list, k)
	}
	slices.Sort(list)
	return list
}
