package turn

import (
	"math"
	"math/rand"
	"slices"
	"testing"
)

// tickets is a turn told anew: who is there drew a number, and the least number of those who are is served.
type tickets struct {
	drawn int
	of    map[int]int
}

func (k *tickets) line() []int {
	var list []int
	for n := range k.drawn {
		for who, ticket := range k.of {
			if ticket == n {
				list = append(list, who)
			}
		}
	}
	return list
}

func (k *tickets) has(who int) bool {
	mine, ok := k.of[who]
	for _, ticket := range k.of {
		ok = ok && mine <= ticket
	}
	return ok
}

func (k *tickets) ask(who int) bool {
	if _, ok := k.of[who]; !ok {
		k.of[who] = k.drawn
		k.drawn++
	}
	return k.has(who)
}

func (k *tickets) leave(who int) bool {
	_, ok := k.of[who]
	delete(k.of, who)
	return ok
}

// lined is a turn for which these have asked.
func lined(who ...int) *Turn {
	t := New()
	for _, w := range who {
		t.Ask(w)
	}
	return t
}

func wantAsk(t *testing.T, x *Turn, who int, want bool) {
	t.Helper()
	if got := x.Ask(who); got != want {
		t.Errorf("Ask(%d) = %v, want %v", who, got, want)
	}
	if got := x.Has(who); got != want {
		t.Errorf("behind Ask(%d): Has is %v, want %v", who, got, want)
	}
}

func wantLeave(t *testing.T, x *Turn, who int, want bool) {
	t.Helper()
	if got := x.Leave(who); got != want {
		t.Errorf("Leave(%d) = %v, want %v", who, got, want)
	}
}

// wantLine holds the line against what it must be, and who has the turn with it.
func wantLine(t *testing.T, x *Turn, want ...int) {
	t.Helper()
	if list := x.Line(); !slices.Equal(list, want) {
		t.Errorf("Line = %v, want %v", list, want)
	}
	for i, who := range want {
		if x.Has(who) != (i == 0) {
			t.Errorf("Has(%d) = %v, in the line %v", who, x.Has(who), want)
		}
	}
	for _, who := range []int{-1, 0, 1, 77, math.MaxInt, math.MinInt} {
		if !slices.Contains(want, who) && x.Has(who) {
			t.Errorf("Has(%d), which isn't in the line %v", who, want)
		}
	}
}

func TestExamples(t *testing.T) { // P15.1, P15.2
	x := New()
	wantAsk(t, x, 4, true)
	wantAsk(t, x, 5, false)
	wantAsk(t, x, 4, true)
	wantLine(t, x, 4, 5)
	wantLeave(t, x, 4, true)
	if !x.Has(5) {
		t.Error("5 hasn't the turn")
	}
	wantLeave(t, x, 4, false)
	wantLine(t, x, 5)
}

func TestNil(t *testing.T) { // P15.1
	var x *Turn
	for _, who := range []int{0, 1, -1, math.MaxInt, math.MinInt, 0} {
		if x.Ask(who) || x.Has(who) || x.Leave(who) || len(x.Line()) != 0 {
			t.Errorf("of a nil turn, for %d", who)
		}
	}
}

func TestNew(t *testing.T) { // P15.1
	x := New()
	if x == nil {
		t.Fatal("New is nil")
	}
	wantLine(t, x)
	for _, who := range []int{0, 1, -1, math.MaxInt, math.MinInt} {
		wantLeave(t, x, who, false)
		wantLine(t, x)
	}
}

func TestAsk(t *testing.T) { // P15.1
	x := New()
	wantAsk(t, x, 7, true)
	wantLine(t, x, 7)
	wantAsk(t, x, 7, true)
	wantLine(t, x, 7)
	wantAsk(t, x, 3, false)
	wantLine(t, x, 7, 3)
	wantAsk(t, x, 9, false)
	wantLine(t, x, 7, 3, 9)
	for _, who := range []int{3, 9, 3, 7, 9} { // who is in the line keeps the place
		wantAsk(t, x, who, who == 7)
		wantLine(t, x, 7, 3, 9)
	}
	wantAsk(t, x, 0, false) // 0 is somebody, too
	wantLine(t, x, 7, 3, 9, 0)
}

func TestAnyNumber(t *testing.T) { // P15.1, P15.2
	all := []int{math.MinInt, 0, math.MaxInt, -1, 1, -7, math.MaxInt32, math.MinInt32, 1 << 32, math.MinInt + 1, math.MaxInt - 1}
	for i := range all {
		x := New()
		order := slices.Concat(all[i:], all[:i])
		for k, who := range order {
			wantAsk(t, x, who, k == 0)
			wantLine(t, x, order[:k+1]...)
		}
		for k, who := range order {
			wantLeave(t, x, who, true)
			wantLeave(t, x, who, false)
			wantLine(t, x, order[k+1:]...)
		}
	}
}

func TestLeave(t *testing.T) { // P15.2
	x := lined(1, 2, 3, 4)
	wantLeave(t, x, 1, true) // the first one
	wantLine(t, x, 2, 3, 4)
	wantLeave(t, x, 1, false)
	wantLine(t, x, 2, 3, 4)
	x = lined(1, 2, 3, 4)
	wantLeave(t, x, 3, true) // one in the middle
	wantLine(t, x, 1, 2, 4)
	wantLeave(t, x, 3, false)
	x = lined(1, 2, 3, 4)
	wantLeave(t, x, 4, true) // the last one
	wantLine(t, x, 1, 2, 3)
	wantLeave(t, x, 4, false)
	x = lined(1, 2, 3, 4)
	wantLeave(t, x, 5, false) // one who isn't there
	wantLeave(t, x, 0, false)
	wantLine(t, x, 1, 2, 3, 4)
	x = lined(6)
	wantLeave(t, x, 6, true) // the only one
	wantLine(t, x)
	wantLeave(t, x, 6, false)
	wantAsk(t, x, 6, true)
	wantLine(t, x, 6)
}

func TestAskAgain(t *testing.T) { // P15.1, P15.2: who has left stands behind all
	x := lined(1, 2, 3)
	wantLeave(t, x, 1, true)
	wantAsk(t, x, 1, false)
	wantLine(t, x, 2, 3, 1)
	wantLeave(t, x, 3, true)
	wantAsk(t, x, 3, false)
	wantLine(t, x, 2, 1, 3)
	wantLeave(t, x, 3, true)
	wantAsk(t, x, 3, false)
	wantLine(t, x, 2, 1, 3)
	wantLeave(t, x, 2, true)
	wantAsk(t, x, 1, true)
	wantLine(t, x, 1, 3)
}

func TestLineIsTheCallersOwn(t *testing.T) { // P15.2, rule 4
	x := lined(1, 2, 3)
	list, other := x.Line(), x.Line()
	list[0], list[2] = 9, 8
	_ = append(list[:1], 7, 7, 7)
	wantLine(t, x, 1, 2, 3)
	if !slices.Equal(other, []int{1, 2, 3}) {
		t.Errorf("two answers share memory: %v", other)
	}
	wantLeave(t, x, 1, true)
	wantAsk(t, x, 4, false)
	if !slices.Equal(other, []int{1, 2, 3}) {
		t.Errorf("what was answered is changed: %v", other)
	}
	wantLeave(t, x, 2, true)
	short := x.Line()
	_ = append(short, 5, 6)
	wantAsk(t, x, 7, false)
	_ = append(short, 8, 9)
	wantLine(t, x, 3, 4, 7)
}

func TestWaiting(t *testing.T) { // P15.3
	r := rand.New(rand.NewSource(3))
	for range 200 {
		order := r.Perm(10)
		x := lined(order...)
		mine := r.Intn(10)
		ahead := slices.Clone(order[:mine])
		r.Shuffle(len(ahead), func(i, j int) { ahead[i], ahead[j] = ahead[j], ahead[i] })
		for _, who := range ahead {
			if x.Has(order[mine]) || x.Ask(order[mine]) {
				t.Fatalf("%d of %v has the turn ahead of %d", order[mine], order, who)
			}
			wantLeave(t, x, who, true)
			if k := r.Intn(10); k > mine { // who stands behind makes no difference
				x.Leave(order[k])
				x.Ask(order[k])
			}
			x.Ask(who)
		}
		if !x.Has(order[mine]) || !x.Ask(order[mine]) {
			t.Fatalf("%d of %v hasn't the turn", order[mine], order)
		}
	}
}

func TestScripts(t *testing.T) { // P15.1 to P15.3
	r := rand.New(rand.NewSource(15))
	for range 300 {
		x, k := New(), &tickets{of: map[int]int{}}
		people := []int{math.MinInt, math.MaxInt, -3, -2, -1, 0, 1, 2, 3, 1 << 40}[r.Intn(8):]
		for range 120 {
			who := people[r.Intn(len(people))]
			switch r.Intn(5) {
			case 0, 1:
				wantAsk(t, x, who, k.ask(who))
			case 2, 3:
				wantLeave(t, x, who, k.leave(who))
			default:
				if got := x.Has(who); got != k.has(who) {
					t.Fatalf("Has(%d) = %v, want %v", who, got, k.has(who))
				}
			}
			wantLine(t, x, k.line()...)
			had := 0
			for _, p := range people {
				if x.Has(p) {
					had++
				}
			}
			if had != min(1, len(k.of)) {
				t.Fatalf("%d have the turn, with %v in the line", had, k.line())
			}
		}
	}
}

func TestLongLine(t *testing.T) { // P15.1, P15.2: nobody is turned away
	x := New()
	const many = 2000
	for who := range many {
		wantAsk(t, x, -who, who == 0)
	}
	for who := range many {
		if !x.Has(-who) || len(x.Line()) != many-who || !x.Leave(-who) {
			t.Fatalf("%d of a long line", who)
		}
	}
	wantLine(t, x)
}

func TestAlone(t *testing.T) { // rule 6: turns know nothing of each other
	a, b := New(), New()
	wantAsk(t, a, 1, true)
	wantLine(t, b)
	wantAsk(t, b, 2, true)
	wantAsk(t, b, 1, false)
	wantLeave(t, b, 2, true)
	wantLine(t, a, 1)
	wantLine(t, b, 1)
}
