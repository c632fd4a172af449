package keys

import (
	"math"
	"math/rand"
	"slices"
	"testing"
)

func TestRising(t *testing.T) { // P14.2, P16.2
	if list := Rising[uint64, int](nil); len(list) != 0 {
		t.Errorf("of no map: %v", list)
	}
	if list := Rising(map[uint16]string{}); len(list) != 0 {
		t.Errorf("of an empty map: %v", list)
	}
	numbers := map[uint64]uint32{7: 1, 0: 9, math.MaxUint64: 0, 1: 9, 1 << 63: 5}
	if list := Rising(numbers); !slices.Equal(list, []uint64{0, 1, 7, 1 << 63, math.MaxUint64}) {
		t.Errorf("of numbers without a sign: %v", list)
	}
	signed := map[int]struct{}{0: {}, -1: {}, math.MinInt: {}, math.MaxInt: {}}
	if list := Rising(signed); !slices.Equal(list, []int{math.MinInt, -1, 0, math.MaxInt}) {
		t.Errorf("of numbers with a sign: %v", list)
	}
	texts := map[string]int{"b": 1, "": 2, "ab": 3, "a": 4}
	if list := Rising(texts); !slices.Equal(list, []string{"", "a", "ab", "b"}) {
		t.Errorf("of texts: %v", list)
	}
}

func TestRisingOfAny(t *testing.T) { // P14.2, P16.2: whatever was put in and deleted, and however the map is gone through
	r := rand.New(rand.NewSource(9))
	for range 300 {
		m := map[uint16]int{}
		for range r.Intn(40) {
			m[uint16(r.Intn(60))] = r.Int()
			delete(m, uint16(r.Intn(60)))
		}
		var want []uint16
		for k := range uint16(60) {
			if _, ok := m[k]; ok {
				want = append(want, k)
			}
		}
		for range 3 {
			if list := Rising(m); !slices.Equal(list, want) {
				t.Fatalf("Rising = %v, want %v", list, want)
			}
		}
	}
}

func TestRisingIsNew(t *testing.T) { // rule 4
	m := map[int]int{3: 1, 1: 2}
	list := Rising(m)
	list[0], list[1] = 8, 9
	if again := Rising(m); !slices.Equal(again, []int{1, 3}) || len(m) != 2 || m[3] != 1 || m[1] != 2 {
		t.Errorf("behind a change of the answer: %v, and the map is %v", again, m)
	}
}
