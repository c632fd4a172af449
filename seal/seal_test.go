package seal

import (
	"math"
	"math/big"
	"math/rand"
	"testing"

	"varve/api"
)

// outside are numbers of no sector.
func outside() []int {
	return []int{math.MinInt, math.MinInt + 1, -1 << 58, -1 << 32, -4, -1, 4, 5, 64, 1 << 32, 1<<32 + 1, 1 << 58, 1<<58 + 1, math.MaxInt - 1, math.MaxInt}
}

// stamps are those of the edges, each of whose bytes tells its place in one at least.
func stamps() []uint64 {
	list := []uint64{0, 1, 255, 256, 258, 259, 1 << 32, 0x0807060504030201, 1 << 63, math.MaxUint64 - 1, math.MaxUint64}
	r := rand.New(rand.NewSource(1))
	for range 50 {
		list = append(list, r.Uint64()>>r.Intn(64))
	}
	return list
}

func randomPayload(r *rand.Rand) api.Payload {
	var p api.Payload
	for i := range p {
		p[i] = byte(r.Intn(256))
	}
	return p
}

func randomSector(r *rand.Rand) api.Sector {
	var s api.Sector
	for i := range s {
		s[i] = byte(r.Intn(256))
	}
	return s
}

func randomBlock(r *rand.Rand) api.Block {
	var b api.Block
	for i := range b {
		b[i] = byte(r.Intn(256))
	}
	return b
}

// sealed is the block as the chapter tells it, one sector's bytes behind the other's.
func sealed(stamp uint64, p api.Payload) api.Block {
	tail := make([]byte, 8)
	new(big.Int).SetUint64(stamp).FillBytes(tail)
	var all []byte
	for part := 0; part < 224; part += 56 {
		all = append(all, p[part:part+56]...)
		for i := 7; i >= 0; i-- {
			all = append(all, tail[i])
		}
	}
	return api.Block(all)
}

// stampByte tells whether a byte of a block is one of a stamp.
func stampByte(i int) bool { return i%64 >= 56 }

func TestSealExample(t *testing.T) { // P4.1
	var p api.Payload
	for i := range p {
		p[i] = byte(i + 1)
	}
	b := Seal(258, p)
	for _, at := range []int{56, 120, 184, 248} {
		if got := string(b[at : at+8]); got != "\x02\x01\x00\x00\x00\x00\x00\x00" {
			t.Errorf("the bytes from %d on are %x", at, got)
		}
	}
	if b[0] != p[0] || b[55] != p[55] || b[64] != p[56] || b[128] != p[112] || b[192] != p[168] || b[247] != p[223] {
		t.Errorf("Seal(258, p) = %x", b)
	}
}

func TestSealAndOpen(t *testing.T) { // P4.1, P4.2, P4.4
	r := rand.New(rand.NewSource(2))
	for _, stamp := range stamps() {
		for _, p := range []api.Payload{{}, randomPayload(r), randomPayload(r)} {
			kept := p
			b := Seal(stamp, p)
			if b != sealed(stamp, p) {
				t.Errorf("Seal(%d, %x) = %x", stamp, p, b)
			}
			if s, q, ok := Open(b); s != stamp || q != p || !ok {
				t.Errorf("Open of Seal(%d, %x) = %d, %x, %v", stamp, p, s, q, ok)
			}
			if p != kept {
				t.Error("Seal has changed the payload")
			}
		}
	}
}

func TestOpenNoughts(t *testing.T) { // P4.2
	if s, p, ok := Open(api.Block{}); s != 0 || p != (api.Payload{}) || !ok {
		t.Errorf("Open of noughts = %d, %x, %v", s, p, ok)
	}
}

// One bit of one stamp is enough; a payload's bits make no difference.
func TestOpenOneBit(t *testing.T) { // P4.2
	r := rand.New(rand.NewSource(3))
	for _, stamp := range []uint64{0, 258, 0x0807060504030201, math.MaxUint64} {
		whole := Seal(stamp, randomPayload(r))
		for i := range whole {
			for bit := range 8 {
				b := whole
				b[i] ^= 1 << bit
				s, p, ok := Open(b)
				if stampByte(i) {
					if s != 0 || p != (api.Payload{}) || ok {
						t.Fatalf("Open with another bit in byte %d = %d, %x, %v", i, s, p, ok)
					}
				} else if s != stamp || sealed(stamp, p) != b || !ok {
					t.Fatalf("Open with another bit in byte %d = %d, %x, %v", i, s, p, ok)
				}
			}
		}
	}
}

// A stamp is in the four of one sector alone, or in two pairs: all four have to be the same.
func TestOpenUnlikeStamps(t *testing.T) { // P4.2
	r := rand.New(rand.NewSource(4))
	for pattern := range 256 {
		b := Seal(0, randomPayload(r))
		first, same := pattern%4, true
		for i := range 4 {
			k := pattern >> (2 * i) % 4
			b[64*i+63] = byte(k)
			same = same && k == first
		}
		s, p, ok := Open(b)
		if ok != same || !same && (s != 0 || p != (api.Payload{})) || same && s != uint64(first)<<56 {
			t.Errorf("Open of stamps %08b = %d, %x, %v", pattern, s, p, ok)
		}
	}
}

func TestOpenRandomBlock(t *testing.T) { // P4.2
	r := rand.New(rand.NewSource(5))
	for range 1000 {
		b := randomBlock(r)
		if s, p, ok := Open(b); s != 0 || p != (api.Payload{}) || ok {
			t.Fatalf("Open(%x) = %d, %x, %v", b, s, p, ok)
		}
	}
}

func TestTornBlocks(t *testing.T) { // P4.4
	r := rand.New(rand.NewSource(6))
	list := stamps()
	for range 500 {
		a, b := list[r.Intn(len(list))], list[r.Intn(len(list))]
		p := randomPayload(r)
		one, two := Seal(a, p), Seal(b, randomPayload(r))
		for kept := range 16 {
			torn := one
			for i := range 4 {
				if kept>>i&1 == 1 {
					torn = Lay(torn, i, Cut(two, i))
				}
			}
			s, q, ok := Open(torn)
			want := a == b || kept == 0 || kept == 15
			if ok != want || !want && (s != 0 || q != (api.Payload{})) {
				t.Fatalf("Open of stamps %d and %d, %04b kept = %d, %x, %v", a, b, kept, s, q, ok)
			}
		}
	}
}

func TestCut(t *testing.T) { // P4.3
	r := rand.New(rand.NewSource(7))
	for range 50 {
		b := randomBlock(r)
		kept := b
		for i := range 4 {
			if got := Cut(b, i); string(got[:]) != string(kept[64*i:64*i+64]) {
				t.Errorf("Cut(%x, %d) = %x", b, i, got)
			}
		}
		for _, i := range outside() {
			if got := Cut(b, i); got != (api.Sector{}) {
				t.Errorf("Cut(%x, %d) = %x", b, i, got)
			}
		}
		if b != kept {
			t.Error("Cut has changed the block")
		}
	}
}

func TestLay(t *testing.T) { // P4.3
	r := rand.New(rand.NewSource(8))
	for range 50 {
		b, s := randomBlock(r), randomSector(r)
		kept, laid := b, s
		for i := range 4 {
			want := string(b[:64*i]) + string(s[:]) + string(b[64*i+64:])
			if got := Lay(b, i, s); string(got[:]) != want {
				t.Errorf("Lay(%x, %d, %x) = %x", b, i, s, got)
			}
			if got := Lay(b, i, api.Sector{}); Cut(got, i) != (api.Sector{}) {
				t.Errorf("Lay of noughts at %d = %x", i, got)
			}
		}
		for _, i := range outside() {
			if got := Lay(b, i, s); got != b {
				t.Errorf("Lay(%x, %d, %x) = %x", b, i, s, got)
			}
		}
		if b != kept || s != laid {
			t.Error("Lay has changed what was handed in")
		}
	}
}
