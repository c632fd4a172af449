package crc

import (
	"hash/crc32"
	"math"
	"math/rand"
	"strings"
	"testing"
)

// stepWant is a step of a register as the document's words say it.
func stepWant(register uint32) uint32 {
	out := register % 2
	register /= 2
	if out == 1 {
		register ^= 0xedb88320
	}
	return register
}

// stepsWant is so many steps, one by one.
func stepsWant(register uint32, n int) uint32 {
	for range n {
		register = stepWant(register)
	}
	return register
}

// goOn is what the register comes to over s, ahead of and behind it all bits turned.
func goOn(sum uint32, s string) uint32 {
	register := sum ^ 0xffffffff
	for _, b := range []byte(s) {
		register = stepsWant(register^uint32(b), 8)
	}
	return register ^ 0xffffffff
}

// texts are of all lengths up to 70, and of some longer ones: of any bytes, of noughts, and of ones.
func texts() []string {
	r := rand.New(rand.NewSource(3))
	var list []string
	for _, n := range []int{224, 256, 1000, 4097} {
		list = append(list, random(r, n), strings.Repeat("\x00", n), strings.Repeat("\xff", n))
	}
	for n := range 71 {
		list = append(list, random(r, n), strings.Repeat("\x00", n), strings.Repeat("\xff", n))
	}
	return list
}

func random(r *rand.Rand, n int) string {
	b := make([]byte, n)
	r.Read(b)
	return string(b)
}

// sums are registers of each bit, and some others.
func sums() []uint32 {
	list := []uint32{0, 1, 7, math.MaxUint32, 0xedb88320, 0xcbf43926, 0xd202ef8d}
	for k := range 32 {
		list = append(list, 1<<k, ^uint32(1<<k))
	}
	return list
}

func TestSum(t *testing.T) { // P2.1
	for _, c := range []struct {
		s    string
		want uint32
	}{
		{"", 0},
		{"123456789", 0xcbf43926},
		{"\x00", 0xd202ef8d},
		{"a", 0xe8b7be43},
		{"\xff", 0xff000000},
		{"\xff\xff\xff\xff", 0xffffffff},
	} {
		if got := Sum(c.s); got != c.want {
			t.Errorf("Sum(%x) = %08x, want %08x", c.s, got, c.want)
		}
	}
	for b := range 256 {
		s := string([]byte{byte(b)})
		if got := Sum(s); got != goOn(0, s) {
			t.Errorf("Sum(%x) = %08x, want %08x", s, got, goOn(0, s))
		}
	}
	for _, s := range texts() {
		if got := Sum(s); got != goOn(0, s) || got != crc32.ChecksumIEEE([]byte(s)) {
			t.Errorf("Sum(%x) = %08x, want %08x", s, got, goOn(0, s))
		}
	}
}

func TestMore(t *testing.T) { // P2.2
	if got := More(Sum("12345"), "6789"); got != 0xcbf43926 {
		t.Errorf("More = %08x, want cbf43926", got)
	}
	for _, sum := range sums() {
		if got := More(sum, ""); got != sum {
			t.Errorf("More(%08x, nothing) = %08x", sum, got)
		}
		for _, s := range []string{"\x00", "\xff", "6789", strings.Repeat("varve", 13)} {
			if got := More(sum, s); got != goOn(sum, s) {
				t.Errorf("More(%08x, %x) = %08x, want %08x", sum, s, got, goOn(sum, s))
			}
		}
	}
	for _, s := range texts() {
		for _, at := range []int{0, len(s) / 3, len(s) / 2, len(s)} {
			if got := More(Sum(s[:at]), s[at:]); got != Sum(s) {
				t.Errorf("More at %d of %d = %08x, want %08x", at, len(s), got, Sum(s))
			}
		}
	}
}

func TestJoin(t *testing.T) { // P2.3
	if got := Join(Sum("12345"), Sum("6789"), 4); got != 0xcbf43926 {
		t.Errorf("Join = %08x, want cbf43926", got)
	}
	for _, s := range texts() {
		for _, at := range []int{0, len(s) / 3, len(s) / 2, len(s)} {
			if got := Join(Sum(s[:at]), Sum(s[at:]), len(s)-at); got != Sum(s) {
				t.Errorf("Join at %d of %d = %08x, want %08x", at, len(s), got, Sum(s))
			}
		}
	}
	for _, a := range sums() {
		for _, b := range []uint32{0, 1, 0xdeadbeef, math.MaxUint32} {
			for _, n := range []int{0, 1, 2, 3, 4, 5, 7, 8, 9, 255, 256, 1000} {
				if got, want := Join(a, b, n), stepsWant(a, 8*n)^b; got != want {
					t.Errorf("Join(%08x, %08x, %d) = %08x, want %08x", a, b, n, got, want)
				}
			}
		}
	}
}

func TestJoinOfNoSteps(t *testing.T) { // P2.3
	if got := Join(7, 0, 0); got != 7 {
		t.Errorf("Join(7, 0, 0) = %d", got)
	}
	for _, n := range []int{0, -1, -2, -3, -8, -1 << 31, -1 << 32, -1 << 62, math.MinInt + 1, math.MinInt} {
		for _, a := range sums() {
			for _, b := range []uint32{0, 5, math.MaxUint32} {
				if got := Join(a, b, n); got != a^b {
					t.Errorf("Join(%08x, %08x, %d) = %08x, want %08x", a, b, n, got, a^b)
				}
			}
		}
	}
}

// matrix is what steps make of each bit of a register, the lowest one first.
type matrix [32]uint32

func (m *matrix) of(a uint32) uint32 {
	sum := uint32(0)
	for k := range 32 {
		if a>>k&1 == 1 {
			sum ^= m[k]
		}
	}
	return sum
}

func (m *matrix) twice() matrix {
	var out matrix
	for k := range 32 {
		out[k] = m.of(m[k])
	}
	return out
}

// joinWant goes 8 n steps by matrices, a bit of n at a time.
func joinWant(a, b uint32, n int) uint32 {
	var m matrix
	for k := range 32 {
		m[k] = stepsWant(1<<k, 8)
	}
	for ; n > 0; n /= 2 {
		if n%2 == 1 {
			a = m.of(a)
		}
		m = m.twice()
	}
	return a ^ b
}

func TestJoinOfManySteps(t *testing.T) { // P2.3
	list := []int{math.MaxInt, math.MaxInt - 1, 1<<62 + 1<<61 + 12345, 0x0123456789abcdef, 1<<32 - 1, 1000003}
	for k := range 63 {
		list = append(list, 1<<k, 1<<k-1, 1<<k+1)
	}
	for _, n := range list {
		for _, a := range []uint32{0, 1, 7, 1 << 31, 0xcbf43926, math.MaxUint32} {
			if got, want := Join(a, 0x12345678, n), joinWant(a, 0x12345678, n); got != want {
				t.Errorf("Join(%08x, 12345678, %d) = %08x, want %08x", a, n, got, want)
			}
		}
	}
}

// A register is the same again after 2^32 - 1 steps, so 2^65 steps are two, and 2^66 - 8 are four back.
func TestJoinGoesRound(t *testing.T) { // P2.3
	for _, a := range sums() {
		if got, want := Join(a, 0, 1<<62), stepsWant(a, 2); got != want {
			t.Errorf("Join(%08x, 0, 2^62) = %08x, want %08x", a, got, want)
		}
		if got := stepsWant(Join(a, 0, math.MaxInt), 4); got != a {
			t.Errorf("four steps behind Join(%08x, 0, 2^63 - 1) = %08x", a, got)
		}
		if got := Join(a, 9, 1<<32-1); got != a^9 {
			t.Errorf("Join(%08x, 9, 2^32 - 1) = %08x", a, got)
		}
		if a != 0 && Join(a, 0, (1<<32-1)/3) == a {
			t.Errorf("Join(%08x, 0, (2^32 - 1) / 3) is the same", a)
		}
	}
}

// turnFrom turns the bits of pattern in s, from that bit on, of a byte the lowest first.
func turnFrom(s string, bit int, pattern uint32) string {
	b := []byte(s)
	for k := range 32 {
		if at := bit + k; pattern>>k&1 == 1 && at < 8*len(b) {
			b[at/8] ^= 1 << (at % 8)
		}
	}
	return string(b)
}

func TestSumTellsNearFaults(t *testing.T) { // P2.4
	r := rand.New(rand.NewSource(4))
	for _, n := range []int{1, 4, 5, 64, 224} {
		s := random(r, n)
		for bit := range 8 * n {
			for _, pattern := range []uint32{1, 3, 0xff, 0x80000001, math.MaxUint32, 0xedb88320 | 1, r.Uint32() | 1} {
				if other := turnFrom(s, bit, pattern); Sum(other) == Sum(s) {
					t.Errorf("%d bytes, bits %08x from %d on: one sum", n, pattern, bit)
				}
			}
		}
	}
}

func TestSumOfThree(t *testing.T) { // P2.4
	r := rand.New(rand.NewSource(5))
	for n := range 80 {
		a, b, c := random(r, n), random(r, n), random(r, n)
		odd := make([]byte, n)
		for i := range odd {
			odd[i] = a[i] ^ b[i] ^ c[i]
		}
		if got, want := Sum(string(odd)), Sum(a)^Sum(b)^Sum(c); got != want {
			t.Errorf("%d bytes: sum %08x, want %08x", n, got, want)
		}
	}
}
