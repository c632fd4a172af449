package clock

import (
	"math"
	"math/rand"
	"slices"
	"strconv"
	"strings"
	"testing"
)

// spot is a frame as a dial has it.
type spot struct {
	no         int
	seen, cold bool
	pins       int
}

// dial is a clock told anew: a list that begins with the frame at the hand, and is turned as the hand moves.
type dial struct {
	spots []spot
}

func dialOf(n int) *dial {
	d := &dial{}
	for i := range n {
		d.spots = append(d.spots, spot{no: i})
	}
	return d
}

func (d *dial) turn() {
	d.spots = append(slices.Clone(d.spots[1:]), d.spots[0])
}

// at does something with a frame, if there is such a one.
func (d *dial) at(no int, do func(s *spot)) {
	for i := range d.spots {
		if d.spots[i].no == no {
			do(&d.spots[i])
		}
	}
}

func (d *dial) victim() (int, bool) {
	held := func(s spot) bool { return s.pins != 0 }
	cold := func(s spot) bool { return s.cold && !held(s) }
	if !slices.ContainsFunc(d.spots, func(s spot) bool { return !held(s) }) {
		return 0, false
	}
	if k := slices.IndexFunc(d.spots, cold); k >= 0 {
		for range k {
			d.turn()
		}
		d.turn()
		return d.spots[len(d.spots)-1].no, true
	}
	for {
		d.turn()
		s := &d.spots[len(d.spots)-1]
		switch {
		case s.pins != 0:
		case s.seen:
			s.seen = false
		default:
			return s.no, true
		}
	}
}

// told is a clock of which this is said, frame by frame, with its hand at a frame: s seen, c cold, b both, - none of this; as a capital (and _) held too.
func told(t *testing.T, what string, hand int) *Clock {
	t.Helper()
	c := New(len(what))
	for i := range hand {
		wantVictim(t, what, c, i)
	}
	for i, r := range what {
		if strings.ContainsRune("sbSB", r) {
			c.Touch(i)
		}
		if strings.ContainsRune("cbCB", r) {
			c.Cold(i, true)
		}
		if strings.ContainsRune("SCB_", r) {
			c.Pin(i)
		}
	}
	return c
}

// wantVictim holds what Victim answers against a frame's number; -1: there is none.
func wantVictim(t *testing.T, name string, c *Clock, want int) {
	t.Helper()
	i, ok := c.Victim()
	if want < 0 && (i != 0 || ok) {
		t.Errorf("%s: Victim = %d, %v, want 0, false", name, i, ok)
	}
	if want >= 0 && (i != want || !ok) {
		t.Errorf("%s: Victim = %d, %v, want %d, true", name, i, ok, want)
	}
}

func wantVictims(t *testing.T, what string, hand int, want ...int) {
	t.Helper()
	c := told(t, what, hand)
	for k, w := range want {
		wantVictim(t, what+" from "+strconv.Itoa(hand)+", the answer "+strconv.Itoa(k), c, w)
	}
}

func wantPins(t *testing.T, c *Clock, want ...int) {
	t.Helper()
	for i, w := range want {
		if n := c.Pins(i); n != w {
			t.Errorf("Pins(%d) = %d, want %d", i, n, w)
		}
	}
}

// strangers are numbers that no frame of a clock over n frames has.
func strangers(n int) []int {
	return []int{-1, -2, -n, n, n + 1, 2 * n, math.MaxInt, math.MinInt, math.MaxInt - n, 1 << 32, 1<<32 - n}
}

func TestExamples(t *testing.T) { // P12.2, P12.3
	c := New(3)
	c.Touch(0)
	for _, want := range []int{1, 2, 0} {
		wantVictim(t, "the first one touched", c, want)
	}
	c = New(3)
	c.Cold(2, true)
	wantVictim(t, "the last one cold", c, 2)
	wantVictim(t, "the last one cold", c, 2)
	c.Pin(2)
	wantVictim(t, "the last one cold and held", c, 0)
	c = New(2)
	c.Pin(0)
	c.Pin(1)
	wantVictim(t, "both held", c, -1)
}

func TestNew(t *testing.T) { // P12.1
	for _, n := range []int{0, 65, -1, -64, 66, 128, math.MaxInt, math.MinInt, 1<<32 + 1} {
		if New(n) != nil {
			t.Errorf("New(%d) is a clock", n)
		}
	}
	for _, n := range []int{1, 2, 3, 32, 63, 64} {
		c := New(n)
		if c == nil {
			t.Fatalf("New(%d) is nil", n)
		}
		for i := range 2*n + 1 { // none is seen, cold or held, and the hand stands at 0
			wantVictim(t, "a new clock over "+strconv.Itoa(n), c, i%n)
		}
		wantPins(t, c, make([]int, n)...)
		if c.Unpin(0) || c.Unpin(n-1) {
			t.Errorf("a new clock over %d has a frame that is held", n)
		}
	}
}

func TestNil(t *testing.T) { // P12.1
	var c *Clock
	for _, i := range []int{0, 1, 63, 64, -1, math.MaxInt, math.MinInt} {
		c.Touch(i)
		c.Cold(i, true)
		c.Cold(i, false)
		c.Clear(i)
		c.Pin(i)
		if c.Unpin(i) || c.Pins(i) != 0 {
			t.Errorf("a nil clock holds the frame %d", i)
		}
	}
	wantVictim(t, "a nil clock", c, -1)
}

func TestNoFrame(t *testing.T) { // P12.1
	for _, n := range []int{1, 2, 5, 64} {
		c, still := New(n), New(n)
		for _, i := range strangers(n) {
			c.Touch(i)
			c.Cold(i, true)
			c.Pin(i)
			if c.Unpin(i) || c.Pins(i) != 0 {
				t.Errorf("of %d frames one has the number %d", n, i)
			}
		}
		for range 2 * n {
			want, _ := still.Victim()
			wantVictim(t, "what is said of no frame", c, want)
		}
		wantPins(t, c, make([]int, n)...)
		for i := range n {
			c.Touch(i)
			c.Cold(i, true)
			c.Pin(i)
		}
		for _, i := range strangers(n) {
			c.Clear(i)
			c.Cold(i, false)
			c.Unpin(i)
		}
		wantPins(t, c, slices.Repeat([]int{1}, n)...)
		wantVictim(t, "all held", c, -1)
		c.Unpin(n - 1)
		wantVictim(t, "the last one cold", c, n-1)
		wantVictim(t, "the last one cold", c, n-1)
	}
}

func TestPins(t *testing.T) { // P12.2
	for _, n := range []int{1, 3, 64} {
		for _, i := range []int{0, n - 1} {
			c := New(n)
			unpin := func(want bool, left int) {
				t.Helper()
				if got := c.Unpin(i); got != want || c.Pins(i) != left {
					t.Errorf("Unpin(%d) = %v, then Pins %d, want %v, %d", i, got, c.Pins(i), want, left)
				}
			}
			unpin(false, 0)
			c.Pin(i)
			wantPins(t, c, slices.Concat(make([]int, i), []int{1})...)
			unpin(true, 0)
			unpin(false, 0)
			c.Pin(i)
			c.Pin(i)
			wantPins(t, c, slices.Concat(make([]int, i), []int{2})...)
			unpin(true, 1)
			unpin(true, 0)
			unpin(false, 0)
			unpin(false, 0)
			wantPins(t, c, make([]int, n)...)
			for k := range 1000 {
				c.Pin(i)
				wantPins(t, c, slices.Concat(make([]int, i), []int{k + 1})...)
			}
		}
	}
}

func TestHeldOften(t *testing.T) { // P12.2, P12.3: a frame that is held is so till its last hold is given back
	c := New(2)
	c.Pin(0)
	c.Pin(0)
	for range 3 {
		wantVictim(t, "0 held twice", c, 1)
	}
	c.Unpin(0)
	wantVictim(t, "0 held once", c, 1)
	c.Unpin(0)
	wantVictim(t, "0 not held", c, 0)
}

func TestVictimHeld(t *testing.T) { // P12.3, P12.4
	wantVictims(t, "---", 0, 0, 1, 2, 0, 1, 2)
	wantVictims(t, "---", 2, 2, 0, 1)
	wantVictims(t, "_--", 0, 1, 2, 1, 2)
	wantVictims(t, "-_-", 1, 2, 0, 2, 0)
	wantVictims(t, "__-", 0, 2, 2, 2)
	wantVictims(t, "-__", 1, 0, 0, 0)
	wantVictims(t, "_-_", 2, 1, 1)
	wantVictims(t, "_s_", 2, 1, 1)
	wantVictims(t, "_c_", 2, 1, 1)
	wantVictims(t, "___", 0, -1, -1)
	wantVictims(t, "_", 0, -1)
	wantVictims(t, "-", 0, 0, 0)
	wantVictims(t, "s", 0, 0, 0)
	wantVictims(t, "b", 0, 0, 0)
	wantVictims(t, "SCB", 1, -1, -1)
}

func TestAllHeldChangesNothing(t *testing.T) { // P12.3
	c := told(t, "SS_S", 2)
	for range 5 {
		wantVictim(t, "all held", c, -1)
	}
	wantPins(t, c, 1, 1, 1, 1)
	for i := range 4 {
		c.Unpin(i)
	}
	// The hand is still at 2, and 0, 1 and 3 are still seen: so 2 comes, then, these being passed over, 2 once more.
	for _, want := range []int{2, 2, 3, 0, 1, 2} {
		wantVictim(t, "given back", c, want)
	}
	c = told(t, "CC", 1)
	wantVictim(t, "all held, and cold", c, -1)
	c.Unpin(0)
	c.Unpin(1)
	wantVictim(t, "given back, and cold", c, 1)
	wantVictim(t, "given back, and cold", c, 0)
}

func TestVictimSeen(t *testing.T) { // P12.3
	wantVictims(t, "sss", 0, 0, 1, 2, 0)
	wantVictims(t, "sss", 2, 2, 0, 1, 2)
	wantVictims(t, "s--", 0, 1, 2, 0, 1)
	wantVictims(t, "-s-", 0, 0, 2, 0, 1, 2)
	wantVictims(t, "--s", 2, 0, 1, 2, 0)
	wantVictims(t, "ss-", 0, 2, 0, 1, 2)
	wantVictims(t, "s_s", 0, 0, 2, 0)
	// Those that are held stay seen when the hand comes by.
	c := told(t, "S--", 0)
	for _, want := range []int{1, 2, 1, 2} {
		wantVictim(t, "0 held and seen", c, want)
	}
	c.Unpin(0)
	for _, want := range []int{1, 2, 0} {
		wantVictim(t, "0 given back, still seen", c, want)
	}
	// What was seen once counts once, however often it was touched.
	c = New(2)
	c.Touch(0)
	c.Touch(0)
	c.Touch(0)
	for _, want := range []int{1, 0, 1, 0} {
		wantVictim(t, "0 touched three times", c, want)
	}
	c.Touch(1)
	wantVictim(t, "1 touched behind the answer", c, 0)
	wantVictim(t, "1 touched behind the answer", c, 1)
}

func TestVictimCold(t *testing.T) { // P12.3
	wantVictims(t, "--c-", 0, 2, 2, 2)
	wantVictims(t, "--c-", 2, 2, 2)
	wantVictims(t, "--c-", 3, 2, 2)
	wantVictims(t, "c--c", 0, 0, 3, 0, 3)
	wantVictims(t, "c--c", 1, 3, 0, 3)
	wantVictims(t, "c--c", 3, 3, 0)
	wantVictims(t, "-cc-", 0, 1, 2, 1)
	wantVictims(t, "cccc", 2, 2, 3, 0, 1, 2)
	wantVictims(t, "-C-c", 0, 3, 3)
	wantVictims(t, "-C-c", 1, 3, 3)
	wantVictims(t, "-C--", 0, 0, 2, 3, 0)
	wantVictims(t, "CC-C", 0, 2, 2)
	wantVictims(t, "CCsC", 0, 2, 2)
	wantVictims(t, "-b-", 0, 1, 1)
	wantVictims(t, "sbs", 0, 1, 1)
	wantVictims(t, "sbs", 2, 1, 1)
	wantVictims(t, "_bS", 2, 1, 1)
	wantVictims(t, "-B-", 0, 0, 2, 0)
	// What is answered for being cold stays cold and seen, and the others stay seen.
	c := told(t, "sbs", 0)
	wantVictim(t, "1 cold and seen", c, 1)
	c.Cold(1, false)
	for _, want := range []int{2, 0, 1} { // from 2 on all are passed over once
		wantVictim(t, "1 cold no more", c, want)
	}
	// The hand moves behind the cold one.
	c = New(4)
	c.Cold(2, true)
	wantVictim(t, "2 cold", c, 2)
	c.Cold(2, false)
	for _, want := range []int{3, 0, 1, 2} {
		wantVictim(t, "2 cold no more", c, want)
	}
	c.Cold(3, true)
	wantVictim(t, "the last one cold", c, 3)
	c.Cold(3, false)
	wantVictim(t, "the hand round the last one", c, 0)
}

func TestColdIsSaidAnew(t *testing.T) { // P12.2
	c := New(3)
	c.Cold(1, true)
	c.Cold(1, true)
	c.Cold(1, false)
	wantVictim(t, "cold no more", c, 0)
	c.Cold(2, false)
	wantVictim(t, "never cold", c, 1)
	c.Cold(0, true)
	c.Pin(0)
	wantVictim(t, "0 cold and held", c, 2)
	c.Unpin(0)
	wantVictim(t, "0 cold", c, 0)
	c.Touch(0)
	wantVictim(t, "0 cold and touched", c, 0)
	c.Cold(0, false)
	for _, want := range []int{1, 2, 1, 2, 0} { // 0 was touched, and is passed over once
		wantVictim(t, "0 cold no more", c, want)
	}
}

func TestClear(t *testing.T) { // P12.2
	for _, what := range []string{"----", "ssss", "cccc", "bbbb", "sc-b"} {
		for i := range 4 {
			c, d := told(t, what, 0), told(t, what[:i]+"-"+what[i+1:], 0)
			c.Clear(i)
			for range 9 {
				want, _ := d.Victim()
				wantVictim(t, what+", "+strconv.Itoa(i)+" cleared", c, want)
			}
		}
	}
	c := told(t, "-B-", 0)
	c.Pin(1)
	c.Clear(1)
	wantPins(t, c, 0, 2, 0)
	wantVictim(t, "cleared, and held", c, 0)
	wantVictim(t, "cleared, and held", c, 2)
	c.Unpin(1)
	c.Unpin(1)
	wantVictim(t, "cleared, and given back", c, 0)
	wantVictim(t, "cleared, and given back", c, 1)
}

func TestAnsweredStays(t *testing.T) { // P12.3: the answer is neither held nor passed over the next time
	c := told(t, "-s", 0)
	wantVictim(t, "0", c, 0)
	wantPins(t, c, 0, 0)
	wantVictim(t, "1 is passed over", c, 0)
	wantVictim(t, "1 is seen no more", c, 1)
	wantPins(t, c, 0, 0)
}

// states are all that may be said of n frames.
func states(n int) []string {
	list := []string{""}
	for range n {
		var longer []string
		for _, s := range list {
			for _, r := range "-scb_SCB" {
				longer = append(longer, s+string(r))
			}
		}
		list = longer
	}
	return list
}

func dialTold(what string, hand int) *dial {
	d := dialOf(len(what))
	for range hand {
		d.turn()
	}
	for i, r := range what {
		d.at(i, func(s *spot) {
			s.seen = strings.ContainsRune("sbSB", r)
			s.cold = strings.ContainsRune("cbCB", r)
			if strings.ContainsRune("SCB_", r) {
				s.pins = 1
			}
		})
	}
	return d
}

func TestAllStates(t *testing.T) { // P12.3, P12.4
	for n := 1; n <= 4; n++ {
		for _, what := range states(n) {
			for hand := range n {
				c, d := told(t, what, hand), dialTold(what, hand)
				for k := range 2*n + 2 {
					i, ok := c.Victim()
					if j, is := d.victim(); i != j || ok != is {
						t.Fatalf("%s from %d: the answer %d is %d, %v, want %d, %v", what, hand, k, i, ok, j, is)
					}
				}
			}
		}
	}
}

func TestAllCome(t *testing.T) { // P12.4
	for _, what := range states(4) {
		loose := strings.Count(what, "-") + strings.Count(what, "s")
		if strings.ContainsAny(what, "cb") {
			continue
		}
		c := told(t, what, 1)
		for range 4 { // so that none is seen any more that isn't held
			c.Victim()
		}
		var came []int
		for range loose {
			i, ok := c.Victim()
			if !ok || c.Pins(i) != 0 || slices.Contains(came, i) {
				t.Fatalf("%s: %d comes behind %v", what, i, came)
			}
			came = append(came, i)
		}
		if _, ok := c.Victim(); ok != (loose > 0) {
			t.Fatalf("%s: an answer: %v", what, ok)
		}
	}
}

// step does one thing with a clock and with a dial, and holds what they answer against each other.
func step(t *testing.T, r *rand.Rand, c *Clock, d *dial) {
	t.Helper()
	n := len(d.spots)
	i := r.Intn(n)
	if r.Intn(20) == 0 {
		list := strangers(n)
		i = list[r.Intn(len(list))]
	}
	switch kind := r.Intn(9); kind {
	case 0:
		c.Touch(i)
		d.at(i, func(s *spot) { s.seen = true })
	case 1:
		is := r.Intn(3) == 0
		c.Cold(i, is)
		d.at(i, func(s *spot) { s.cold = is })
	case 2:
		c.Clear(i)
		d.at(i, func(s *spot) { s.seen, s.cold = false, false })
	case 3, 4:
		c.Pin(i)
		d.at(i, func(s *spot) { s.pins++ })
	case 5, 6:
		want := false
		d.at(i, func(s *spot) {
			want = s.pins > 0
			s.pins = max(0, s.pins-1)
		})
		if got := c.Unpin(i); got != want {
			t.Fatalf("Unpin(%d) = %v, want %v", i, got, want)
		}
	default:
		got, ok := c.Victim()
		if want, is := d.victim(); got != want || ok != is {
			t.Fatalf("Victim = %d, %v, want %d, %v", got, ok, want, is)
		}
	}
	for _, s := range d.spots {
		if c.Pins(s.no) != s.pins {
			t.Fatalf("Pins(%d) = %d, want %d", s.no, c.Pins(s.no), s.pins)
		}
	}
}

func TestScripts(t *testing.T) { // P12.1 to P12.4
	r := rand.New(rand.NewSource(12))
	for range 400 {
		n := []int{1, 2, 3, 4, 5, 8, 32, 63, 64}[r.Intn(9)]
		c, d := New(n), dialOf(n)
		for range 40 + 10*n {
			step(t, r, c, d)
		}
	}
}

func TestAlone(t *testing.T) { // rule 6: clocks know nothing of each other
	a, b := New(3), New(3)
	a.Pin(0)
	a.Cold(2, true)
	a.Touch(1)
	wantVictim(t, "another one", b, 0)
	wantVictim(t, "another one", b, 1)
	wantPins(t, b, 0, 0, 0)
	wantVictim(t, "the one", a, 2)
}
