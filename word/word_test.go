package word

import (
	"math"
	"math/big"
	"math/rand"
	"slices"
	"strings"
	"testing"
)

// numbers are those around each power of two, and some others, in order.
func numbers() []uint64 {
	list := []uint64{258, 0x0123456789abcdef, 0xfedcba9876543210, 0x8080808080808080}
	for k := range 64 {
		p := uint64(1) << k
		list = append(list, p-1, p, p+1, p-2, ^p)
	}
	list = append(list, math.MaxUint64-1, math.MaxUint64)
	r := rand.New(rand.NewSource(1))
	for range 500 {
		list = append(list, r.Uint64()>>r.Intn(64))
	}
	slices.Sort(list)
	return slices.Compact(list)
}

// places are ints that no text of the tests reaches, and those around 0.
func places() []int {
	return []int{math.MinInt, math.MinInt + 1, -1 << 32, -9, -8, -1, 0, 1, 2, 7, 8, 9, 10, 1 << 31, 1 << 32, math.MaxInt - 8, math.MaxInt - 1, math.MaxInt}
}

// lowest is the n lowest bytes of v by dividing, the lowest first.
func lowest(v uint64, n int) string {
	b := make([]byte, n)
	for i := range b {
		b[i] = byte(v % 256)
		v /= 256
	}
	return string(b)
}

func TestPut(t *testing.T) { // P1.1
	for _, c := range []struct {
		v    uint64
		n    int
		want string
	}{
		{258, 2, "\x02\x01"},
		{258, 1, "\x02"},
		{258, 0, ""},
		{258, 9, ""},
		{258, -1, ""},
		{258, 3, "\x02\x01\x00"},
		{0, 8, "\x00\x00\x00\x00\x00\x00\x00\x00"},
		{0x0807060504030201, 8, "\x01\x02\x03\x04\x05\x06\x07\x08"},
		{math.MaxUint64, 8, "\xff\xff\xff\xff\xff\xff\xff\xff"},
		{math.MaxUint64, 7, "\xff\xff\xff\xff\xff\xff\xff"},
		{1 << 63, 8, "\x00\x00\x00\x00\x00\x00\x00\x80"},
		{1 << 63, 7, "\x00\x00\x00\x00\x00\x00\x00"},
	} {
		if got := Put(c.v, c.n); got != c.want {
			t.Errorf("Put(%d, %d) = %x, want %x", c.v, c.n, got, c.want)
		}
	}
	for _, v := range numbers() {
		for n := range 9 {
			if got := Put(v, n); got != lowest(v, n) {
				t.Errorf("Put(%d, %d) = %x", v, n, got)
			}
		}
		for _, n := range places() {
			if got := Put(v, n); (n < 0 || n > 8) && got != "" {
				t.Errorf("Put(%d, %d) = %x, want nothing", v, n, got)
			}
		}
	}
}

func TestWidth(t *testing.T) { // P1.1
	for _, c := range []struct {
		v    uint64
		want int
	}{
		{0, 0}, {1, 1}, {255, 1}, {256, 2}, {65535, 2}, {65536, 3},
		{1<<56 - 1, 7}, {1 << 56, 8}, {math.MaxUint64, 8},
	} {
		if got := Width(c.v); got != c.want {
			t.Errorf("Width(%d) = %d, want %d", c.v, got, c.want)
		}
	}
	for _, v := range numbers() {
		n := 0
		for rest := v; rest > 0; rest /= 256 {
			n++
		}
		if got := Width(v); got != n {
			t.Errorf("Width(%d) = %d, want %d", v, got, n)
		}
	}
}

func TestGet(t *testing.T) { // P1.2
	for _, c := range []struct {
		s     string
		at, n int
		want  uint64
		ok    bool
	}{
		{"\x02\x01", 0, 2, 258, true},
		{"\x02\x01", 1, 1, 1, true},
		{"\x02\x01", 0, 0, 0, true},
		{"ab", 2, 0, 0, true},
		{"ab", 3, 0, 0, false},
		{"ab", 1, 2, 0, false},
		{"ab", 2, 1, 0, false},
		{"ab", -1, 0, 0, false},
		{"ab", -1, 1, 0, false},
		{"ab", 0, -1, 0, false},
		{"ab", 2, -1, 0, false},
		{"", 0, 0, 0, true},
		{"", 0, 1, 0, false},
		{"", 1, 0, 0, false},
		{"\xff\xff\xff\xff\xff\xff\xff\xff", 0, 8, math.MaxUint64, true},
		{"\x01\x02\x03\x04\x05\x06\x07\x08\x09", 1, 8, 0x0908070605040302, true},
		{"\x01\x02\x03\x04\x05\x06\x07\x08\x09", 0, 9, 0, false},
		{"\x01\x02\x03\x04\x05\x06\x07\x08\x09", 2, 8, 0, false},
		{"\x00\x00\x00\x00\x00\x00\x00\x80", 0, 8, 1 << 63, true},
	} {
		if v, ok := Get(c.s, c.at, c.n); v != c.want || ok != c.ok {
			t.Errorf("Get(%x, %d, %d) = %d, %v, want %d, %v", c.s, c.at, c.n, v, ok, c.want, c.ok)
		}
	}
}

// getWant tells by numbers of any size whether n bytes stand in s from at on.
func getWant(s string, at, n int) bool {
	end := new(big.Int).Add(big.NewInt(int64(at)), big.NewInt(int64(n)))
	return n >= 0 && n <= 8 && at >= 0 && end.Cmp(big.NewInt(int64(len(s)))) <= 0
}

func TestGetAnywhere(t *testing.T) { // P1.2, with arguments of all kinds
	for size := range 13 {
		s := strings.Repeat("\x7f\xff\x01", 5)[:size]
		for _, at := range append(places(), size-1, size, size+1, size-8, size-9) {
			for _, n := range append(places(), 3, 4, 5, 6) {
				v, ok := Get(s, at, n)
				if ok != getWant(s, at, n) || !ok && v != 0 {
					t.Fatalf("Get(%x, %d, %d) = %d, %v", s, at, n, v, ok)
				}
				if ok && lowest(v, n) != s[at:at+n] {
					t.Fatalf("Get(%x, %d, %d) = %d", s, at, n, v)
				}
			}
		}
	}
}

// groupsOf is v in groups of seven bits, by dividing.
func groupsOf(v uint64) string {
	var b []byte
	for v >= 128 {
		b = append(b, byte(v%128+128))
		v /= 128
	}
	return string(append(b, byte(v)))
}

func TestVar(t *testing.T) { // P1.3
	for _, c := range []struct {
		v    uint64
		want string
	}{
		{0, "\x00"},
		{1, "\x01"},
		{127, "\x7f"},
		{128, "\x80\x01"},
		{300, "\xac\x02"},
		{16383, "\xff\x7f"},
		{16384, "\x80\x80\x01"},
		{1<<63 - 1, "\xff\xff\xff\xff\xff\xff\xff\xff\x7f"},
		{1 << 63, "\x80\x80\x80\x80\x80\x80\x80\x80\x80\x01"},
		{math.MaxUint64, "\xff\xff\xff\xff\xff\xff\xff\xff\xff\x01"},
	} {
		if got := Var(c.v); got != c.want {
			t.Errorf("Var(%d) = %x, want %x", c.v, got, c.want)
		}
	}
	for _, v := range numbers() {
		if got := Var(v); got != groupsOf(v) {
			t.Errorf("Var(%d) = %x, want %x", v, got, groupsOf(v))
		}
	}
}

func TestTakeVar(t *testing.T) { // P1.4
	ff9, eighty9 := strings.Repeat("\xff", 9), strings.Repeat("\x80", 9)
	for _, c := range []struct {
		s    string
		at   int
		v    uint64
		next int
		ok   bool
	}{
		{"\x00", 0, 0, 1, true},
		{"\x80\x01", 0, 128, 2, true},
		{"\x80\x01", 1, 1, 2, true},
		{"\x80\x01\x80", 0, 128, 2, true},
		{"\x80\x01\x80", 2, 0, 0, false},
		{"\x00\x00", 0, 0, 1, true},
		{"\x00\x00", 1, 0, 2, true},
		{"\x80\x00", 0, 0, 0, false},
		{"\x80\x00", 1, 0, 2, true},
		{"\xff\x80\x00", 0, 0, 0, false},
		{"\x80", 0, 0, 0, false},
		{"", 0, 0, 0, false},
		{"\x05", 1, 0, 0, false},
		{"\x05", 2, 0, 0, false},
		{"\x05", -1, 0, 0, false},
		{"\x05", math.MinInt, 0, 0, false},
		{"\x05", math.MaxInt, 0, 0, false},
		{ff9[:8] + "\x7f", 0, 1<<63 - 1, 9, true},
		{ff9 + "\x01", 0, math.MaxUint64, 10, true},
		{"a" + ff9 + "\x01z", 1, math.MaxUint64, 11, true},
		{eighty9 + "\x01", 0, 1 << 63, 10, true},
		{eighty9 + "\x00", 0, 0, 0, false},
		{ff9 + "\x00", 0, 0, 0, false},
		{ff9 + "\x02", 0, 0, 0, false},
		{eighty9 + "\x02", 0, 0, 0, false},
		{ff9 + "\x7f", 0, 0, 0, false},
		{ff9, 0, 0, 0, false},
		{ff9 + "\x80", 0, 0, 0, false},
		{ff9 + "\x81", 0, 0, 0, false},
		{ff9 + "\x81\x00", 0, 0, 0, false},
		{ff9 + "\x80\x01", 0, 0, 0, false},
		{ff9 + "\x81\x01", 0, 0, 0, false},
		{eighty9 + "\x80\x00", 0, 0, 0, false},
		{eighty9 + eighty9 + "\x01", 0, 0, 0, false},
		{strings.Repeat("\x80", 1000) + "\x01", 0, 0, 0, false},
	} {
		if v, next, ok := TakeVar(c.s, c.at); v != c.v || next != c.next || ok != c.ok {
			t.Errorf("TakeVar(%x, %d) = %d, %d, %v, want %d, %d, %v", c.s, c.at, v, next, ok, c.v, c.next, c.ok)
		}
	}
}

// takeWant is what TakeVar must answer, by numbers of any size.
func takeWant(s string, at int) (uint64, int, bool) {
	if at < 0 || at > len(s) {
		return 0, 0, false
	}
	sum := new(big.Int)
	for i, g := range []byte(s[at:]) {
		sum.Add(sum, new(big.Int).Lsh(big.NewInt(int64(g%128)), uint(7*i)))
		if g < 128 {
			if g == 0 && i > 0 || !sum.IsUint64() {
				return 0, 0, false
			}
			return sum.Uint64(), at + i + 1, true
		}
	}
	return 0, 0, false
}

func checkTake(t *testing.T, s string, at int) {
	t.Helper()
	v, next, ok := TakeVar(s, at)
	if v0, next0, ok0 := takeWant(s, at); v != v0 || next != next0 || ok != ok0 {
		t.Fatalf("TakeVar(%x, %d) = %d, %d, %v, want %d, %d, %v", s, at, v, next, ok, v0, next0, ok0)
	}
}

func TestTakeVarAnywhere(t *testing.T) { // P1.4, with arguments of all kinds
	for a := range 256 {
		checkTake(t, string([]byte{byte(a)}), 0)
		for b := range 256 {
			checkTake(t, string([]byte{byte(a), byte(b)}), 0)
			checkTake(t, strings.Repeat("\x80", 8)+string([]byte{byte(a), byte(b)}), 0)
			checkTake(t, strings.Repeat("\xff", 9)+string([]byte{byte(a), byte(b)}), 0)
		}
	}
	r := rand.New(rand.NewSource(2))
	few := []byte{0, 1, 2, 127, 128, 129, 128, 255, 255, 254}
	for range 20000 {
		b := make([]byte, r.Intn(14))
		for i := range b {
			b[i] = few[r.Intn(len(few))]
		}
		for _, at := range append(places(), len(b)-1, len(b), len(b)+1) {
			checkTake(t, string(b), at)
		}
	}
}

func TestZigZag(t *testing.T) { // P1.5
	for _, c := range []struct {
		i int64
		u uint64
	}{
		{0, 0}, {-1, 1}, {1, 2}, {-2, 3}, {2, 4}, {-64, 127}, {64, 128},
		{math.MaxInt64, math.MaxUint64 - 1},
		{math.MinInt64, math.MaxUint64},
		{math.MinInt64 + 1, math.MaxUint64 - 2},
		{1 << 62, 1 << 63},
		{-1 << 62, 1<<63 - 1},
	} {
		if got := Zig(c.i); got != c.u {
			t.Errorf("Zig(%d) = %d, want %d", c.i, got, c.u)
		}
		if got := Zag(c.u); got != c.i {
			t.Errorf("Zag(%d) = %d, want %d", c.u, got, c.i)
		}
	}
	for _, u := range numbers() {
		i := big.NewInt(int64(u))
		want := new(big.Int).Lsh(i, 1)
		if i.Sign() < 0 {
			want.Neg(want).Sub(want, big.NewInt(1))
		}
		if got := Zig(int64(u)); want.Cmp(new(big.Int).SetUint64(got)) != 0 {
			t.Errorf("Zig(%d) = %d, want %d", i, got, want)
		}
		if got := Zag(Zig(int64(u))); got != int64(u) {
			t.Errorf("Zag(Zig(%d)) = %d", i, got)
		}
		if got := Zig(Zag(u)); got != u {
			t.Errorf("Zig(Zag(%d)) = %d", u, got)
		}
	}
}

func TestWhatWasLaidIsRead(t *testing.T) { // P1.6
	around := []string{"", "\x00", "\xff", "\x80", "\x80\x80\x80\x80\x80\x80\x80\x80\x80\x80", "ab\x00"}
	for _, v := range numbers() {
		for _, front := range around {
			for _, back := range around {
				at := len(front)
				for n := Width(v); n <= 8; n++ {
					if got, ok := Get(front+Put(v, n)+back, at, n); got != v || !ok {
						t.Fatalf("Get of Put(%d, %d) = %d, %v", v, n, got, ok)
					}
				}
				end := at + len(Var(v))
				if got, next, ok := TakeVar(front+Var(v)+back, at); got != v || next != end || !ok {
					t.Fatalf("TakeVar of Var(%d) = %d, %d, %v", v, got, next, ok)
				}
			}
		}
	}
}

func TestBytesOfPutInTwo(t *testing.T) { // P1.6
	for _, v := range numbers() {
		for n := range 9 {
			for k := range n + 1 {
				if got := Put(v, k) + Put(v>>(8*k), n-k); got != Put(v, n) {
					t.Fatalf("Put(%d, %d) in %d and %d bytes = %x", v, n, k, n-k, got)
				}
			}
		}
	}
}

func TestGreaterTakesNoFewer(t *testing.T) { // P1.6
	list := numbers()
	for i, v := range list[1:] {
		less := list[i]
		if Width(less) > Width(v) || len(Var(less)) > len(Var(v)) {
			t.Errorf("%d takes more than %d", less, v)
		}
	}
}
