package octets

import (
	"bytes"
	"math"
	"math/big"
	"testing"

	"signalbox/api"
)

// wrongSizes are numbers of bytes that no number has.
var wrongSizes = []int{0, -1, 9, -8, 16, 64, math.MinInt, math.MaxInt}

// numbers have each bit that is highest in so many bytes once as 0 and once as 1, and bytes that differ.
func numbers() []uint64 {
	l := []uint64{0, 1, 258, 0x0102030405060708, 0xf1e2d3c4b5a69788, math.MaxUint64, math.MaxUint64 - 1}
	for bit := range 64 {
		p := uint64(1) << bit
		l = append(l, p, p-1, p+1, ^p)
	}
	return l
}

// lowest is the number of the lowest n bytes, worked out without shifts.
func lowest(x uint64, n int) *big.Int {
	return new(big.Int).Mod(new(big.Int).SetUint64(x), power(n))
}

// power is 2^(8n).
func power(n int) *big.Int {
	return new(big.Int).Exp(big.NewInt(256), big.NewInt(int64(n)), nil)
}

// P1.1: the lowest bytes, the highest first.
func TestPut(t *testing.T) {
	for _, c := range []struct {
		x    uint64
		n    int
		want []byte
	}{
		{258, 2, []byte{1, 2}},
		{0, 1, []byte{0}},
		{255, 1, []byte{255}},
		{256, 1, []byte{0}},
		{0x01020304, 3, []byte{2, 3, 4}},
		{5, 4, []byte{0, 0, 0, 5}},
		{0x0102030405060708, 7, []byte{2, 3, 4, 5, 6, 7, 8}},
		{0x0102030405060708, 8, []byte{1, 2, 3, 4, 5, 6, 7, 8}},
		{math.MaxUint64, 8, []byte{255, 255, 255, 255, 255, 255, 255, 255}},
		{0, 8, make([]byte, 8)},
	} {
		if b := Put(c.x, c.n); !bytes.Equal(b, c.want) {
			t.Errorf("Put(%d, %d) = %v, want %v", c.x, c.n, b, c.want)
		}
	}
}

// P1.1: all sizes, held against another way of making the bytes.
func TestPutAllSizes(t *testing.T) {
	for _, x := range numbers() {
		for n := 1; n <= 8; n++ {
			want := lowest(x, n).FillBytes(make([]byte, n))
			if b := Put(x, n); !bytes.Equal(b, want) {
				t.Errorf("Put(%d, %d) = %v, want %v", x, n, b, want)
			}
		}
	}
}

// P1.1: a size that there isn't puts nothing.
func TestPutWrongSize(t *testing.T) {
	for _, n := range wrongSizes {
		if b := Put(math.MaxUint64, n); len(b) != 0 {
			t.Errorf("Put(_, %d) = %v, want nothing", n, b)
		}
	}
}

// P1.1: each answer is new memory.
func TestPutNewMemory(t *testing.T) {
	a, b := Put(258, 2), Put(258, 2)
	a[0] = 9
	if c := Put(258, 2); !bytes.Equal(b, []byte{1, 2}) || !bytes.Equal(c, []byte{1, 2}) {
		t.Error(b, c)
	}
}

// P1.1: the number of the first bytes, and those behind.
func TestGet(t *testing.T) {
	for _, c := range []struct {
		b    []byte
		n    int
		x    uint64
		rest []byte
	}{
		{[]byte{1, 2, 3}, 2, 258, []byte{3}},
		{[]byte{0}, 1, 0, nil},
		{[]byte{255}, 1, 255, nil},
		{[]byte{200, 7}, 1, 200, []byte{7}},
		{[]byte{0, 0, 1, 44}, 4, 300, nil},
		{[]byte{1, 2, 3, 4, 5, 6, 7, 8}, 8, 0x0102030405060708, nil},
		{[]byte{128, 0, 0, 0, 0, 0, 0, 0, 5, 6}, 8, 1 << 63, []byte{5, 6}},
		{bytes.Repeat([]byte{255}, 9), 8, math.MaxUint64, []byte{255}},
	} {
		x, rest, e := Get(c.b, c.n)
		if x != c.x || !bytes.Equal(rest, c.rest) || e != api.OK {
			t.Errorf("Get(%v, %d) = %d, %v, %d", c.b, c.n, x, rest, e)
		}
	}
}

// P1.1: a size that there isn't is told ahead of bytes that are too few.
func TestGetWrongSize(t *testing.T) {
	for _, n := range wrongSizes {
		for _, b := range [][]byte{nil, {}, {1}, bytes.Repeat([]byte{7}, 100)} {
			x, rest, e := Get(b, n)
			if x != 0 || len(rest) != 0 || e != api.ErrArg {
				t.Errorf("Get(%v, %d) = %d, %v, %d", b, n, x, rest, e)
			}
		}
	}
}

// P1.1: for each size bytes that are just enough, and all that are too few.
func TestGetShort(t *testing.T) {
	whole := []byte{241, 226, 211, 196, 181, 166, 151, 136}
	for n := 1; n <= 8; n++ {
		want := new(big.Int).SetBytes(whole[:n]).Uint64()
		if x, rest, e := Get(whole[:n], n); x != want || len(rest) != 0 || e != api.OK {
			t.Errorf("Get of %d = %d, %v, %d, want %d", n, x, rest, e, want)
		}
		for have := range n {
			if x, rest, e := Get(whole[:have], n); x != 0 || len(rest) != 0 || e != api.ErrShort {
				t.Errorf("Get of %d out of %d = %d, %v, %d", n, have, x, rest, e)
			}
		}
		if _, _, e := Get(nil, n); e != api.ErrShort {
			t.Errorf("Get of %d out of nil: %d", n, e)
		}
	}
}

// P1.1: bytes behind the length don't count, even if there is room for them.
func TestGetRoomIsNotLength(t *testing.T) {
	b := make([]byte, 3, 64)
	if _, _, e := Get(b, 4); e != api.ErrShort {
		t.Error(e)
	}
}

// P1.1: what is behind is b itself, and b stays as it was.
func TestGetRestOfItself(t *testing.T) {
	b := []byte{1, 2, 3, 4, 5}
	_, rest, _ := Get(b, 2)
	if !bytes.Equal(b, []byte{1, 2, 3, 4, 5}) {
		t.Error("changed:", b)
	}
	if len(rest) != 3 || &rest[0] != &b[2] {
		t.Error("not of b itself:", rest)
	}
}

// P1.2: the first bytes, and those behind.
func TestTake(t *testing.T) {
	b := []byte{10, 11, 12, 13}
	for n := range len(b) + 1 {
		first, rest, e := Take(b, uint64(n))
		if !bytes.Equal(first, b[:n]) || !bytes.Equal(rest, b[n:]) || e != api.OK {
			t.Errorf("Take(_, %d) = %v, %v, %d", n, first, rest, e)
		}
	}
	long := bytes.Repeat([]byte{1, 2, 3}, 30000)
	first, rest, e := Take(long, 70000)
	if !bytes.Equal(first, long[:70000]) || !bytes.Equal(rest, long[70000:]) || e != api.OK {
		t.Error("Take of many:", len(first), len(rest), e)
	}
}

// P1.2: nothing is taken of nothing.
func TestTakeNothing(t *testing.T) {
	for _, b := range [][]byte{nil, {}} {
		if first, rest, e := Take(b, 0); len(first) != 0 || len(rest) != 0 || e != api.OK {
			t.Error(first, rest, e)
		}
	}
}

// P1.2: more than there are, by one up to the greatest number; those above every int would wrap round if they were narrowed.
func TestTakeShort(t *testing.T) {
	for have := range 5 {
		b := make([]byte, have, 64)
		for _, n := range []uint64{uint64(have) + 1, uint64(have) + 2, 64, math.MaxInt32, 1 << 32, math.MaxInt64, 1 << 63, 1<<63 + 1, math.MaxUint64 - 1, math.MaxUint64} {
			if first, rest, e := Take(b, n); len(first) != 0 || len(rest) != 0 || e != api.ErrShort {
				t.Errorf("Take of %d out of %d = %v, %v, %d", n, have, first, rest, e)
			}
		}
	}
	if _, _, e := Take(nil, 1); e != api.ErrShort {
		t.Error(e)
	}
}

// P1.2: the first bytes are new memory, those behind are b itself.
func TestTakeMemory(t *testing.T) {
	for _, n := range []uint64{1, 3, 5} {
		b := []byte{1, 2, 3, 4, 5}
		first, rest, _ := Take(b, n)
		if n < 5 && (uint64(len(rest)) != 5-n || &rest[0] != &b[n]) {
			t.Error("not of b itself:", rest)
		}
		b[0] = 77
		if first[0] != 1 {
			t.Error("the first bytes follow b:", first)
		}
		first = append(first[:1], 99, 99, 99, 99, 99)
		first[0] = 88
		if !bytes.Equal(b, []byte{77, 2, 3, 4, 5}) {
			t.Error("b follows the first bytes:", b)
		}
	}
}

// P1.2: the highest bit 0 and 1, and bytes above those that count.
func TestSigned(t *testing.T) {
	for _, c := range []struct {
		x    uint64
		n    int
		want int64
	}{
		{65535, 2, -1},
		{255, 2, 255},
		{0, 1, 0},
		{127, 1, 127},
		{128, 1, -128},
		{255, 1, -1},
		{256, 1, 0},
		{0x7fff, 2, 32767},
		{0x8000, 2, -32768},
		{0xffffffff, 4, -1},
		{0xfffffffe, 4, -2},
		{0x7fffffff, 4, math.MaxInt32},
		{0x80000000, 4, math.MinInt32},
		{0xab80000000, 4, math.MinInt32},
		{0xffffffff00000005, 4, 5},
		{1<<63 - 1, 8, math.MaxInt64},
		{1 << 63, 8, math.MinInt64},
		{math.MaxUint64, 8, -1},
	} {
		if x := Signed(c.x, c.n); x != c.want {
			t.Errorf("Signed(%d, %d) = %d, want %d", c.x, c.n, x, c.want)
		}
	}
}

// P1.2: all sizes, held against the promise's own words: less by 2^(8n), if the highest bit is 1.
func TestSignedAllSizes(t *testing.T) {
	for _, x := range numbers() {
		for n := 1; n <= 8; n++ {
			want := lowest(x, n)
			if want.Bit(8*n-1) == 1 {
				want.Sub(want, power(n))
			}
			if got := Signed(x, n); got != want.Int64() || !want.IsInt64() {
				t.Errorf("Signed(%d, %d) = %d, want %s", x, n, got, want)
			}
		}
	}
}

// P1.2: a size that there isn't.
func TestSignedWrongSize(t *testing.T) {
	for _, n := range wrongSizes {
		for _, x := range []uint64{0, 5, 1 << 63, math.MaxUint64} {
			if got := Signed(x, n); got != 0 {
				t.Errorf("Signed(%d, %d) = %d, want 0", x, n, got)
			}
		}
	}
}

// P1.3: what was put is got, with what is behind.
func TestPutIsGot(t *testing.T) {
	for _, x := range numbers() {
		for n := 1; n <= 8; n++ {
			for _, behind := range [][]byte{nil, {0}, {9, 8, 7}} {
				got, rest, e := Get(append(Put(x, n), behind...), n)
				if got != lowest(x, n).Uint64() || !bytes.Equal(rest, behind) || e != api.OK {
					t.Errorf("%d in %d bytes: %d, %v, %d", x, n, got, rest, e)
				}
			}
		}
	}
}

// P1.3: a number with a sign comes back by way of its bytes.
func TestSignedIsGot(t *testing.T) {
	for n := 1; n <= 8; n++ {
		least := int64(-1) << (8*n - 1)
		for _, want := range []int64{least, least + 1, -1, 0, 1, -(least + 1)} {
			x, _, e := Get(Put(uint64(want), n), n)
			if got := Signed(x, n); got != want || e != api.OK {
				t.Errorf("%d in %d bytes: %d, %d", want, n, got, e)
			}
		}
	}
}

// P1.3: of 8 bytes the sign changes nothing by rests by 2^64.
func TestSignedOfEight(t *testing.T) {
	for _, x := range numbers() {
		rest := new(big.Int).Mod(big.NewInt(Signed(x, 8)), power(8))
		if rest.Cmp(new(big.Int).SetUint64(x)) != 0 {
			t.Errorf("Signed(%d, 8) is %s by rests", x, rest)
		}
	}
}
