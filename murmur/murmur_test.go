package murmur

import (
	"bytes"
	"math"
	"slices"
	"strings"
	"testing"
)

// edges are bytes at which a sign turns, and those next to them.
var edges = []byte{0, 1, 126, 127, 128, 129, 254, 255}

// rising are so many bytes that all differ from those next to them, with and without a sign.
func rising(n int) []byte {
	b := make([]byte, n)
	for i := range b {
		b[i] = byte(37*i + 11)
	}
	return b
}

// agrees fails unless the sum of b is that of the document's words.
func agrees(t *testing.T, b []byte) {
	t.Helper()
	h, g := Hash(b)
	x, y := reckoned(b)
	if h != x || g != y {
		t.Errorf("Hash(%v) = %#x, %#x, want %#x, %#x", b, h, g, x, y)
	}
}

// differ fails unless both halves of two sums differ.
func differ(t *testing.T, a, b []byte) {
	t.Helper()
	h, g := Hash(a)
	x, y := Hash(b)
	if h == x || g == y {
		t.Errorf("Hash(%v) = %#x, %#x, but Hash(%v) = %#x, %#x", a, h, g, b, x, y)
	}
}

// P11.1: sums that were worked out by another program; those of bytes below 128 are also the well-known ones of MurmurHash3.
func TestHash(t *testing.T) {
	for _, c := range []struct {
		s    string
		h, g uint64
	}{
		{"", 0x0000000000000000, 0x0000000000000000},
		{"0", 0x2ac9debed546a380, 0x3a8de9e53c875e09},
		{"01", 0x649e4eaa7fc1708e, 0xe6945110230f2ad6},
		{"0123456", 0x13eb9fb82606f7a6, 0xb4ebef492fdef34e},
		{"01234567", 0x8236039b7387354d, 0xc3369387d8964920},
		{"012345678", 0x4c1e87519fe738ba, 0x72a17af899d597f1},
		{"0123456789abcde", 0xa62dd5f6c0bf2351, 0x4fccf50c7c544cf0},
		{"0123456789abcdef", 0x4be06d94cf4ad1a7, 0x87c35b5c63a708da},
		{"0123456789abcdefg", 0x8e32612daa45f9de, 0x0800f4c206c372ee},
		{"0123456789abcdefghijklm", 0x25239974a83067c2, 0x0b2a29517c6a8f3a},
		{"0123456789abcdefghijklmn", 0x354bbd1b765bad7a, 0x2cdc72f10e2a15d7},
		{"0123456789abcdefghijklmno", 0x04c8092e7d043d06, 0xb3883500babe4bb9},
		{"0123456789abcdefghijklmnopqrstu", 0xb828780c1a6e0542, 0x3922739113a7e9b2},
		{"0123456789abcdefghijklmnopqrstuv", 0x2f285ccec0edf1f7, 0xc405d66374dea50b},
		{"0123456789abcdefghijklmnopqrstuvw", 0xe82017bf95741128, 0xddc56eb32bc3a99a},
		{"0123456789abcdefghijklmnopqrstuvwxyz", 0xefaada68afc26d95, 0x1fd263b10d25fbaa},
		{"hello", 0xcbd8a7b341bd9b02, 0x5b1e906a48ae1d19},
		{"The quick brown fox jumps over the lazy dog", 0xe34bbc7bbc071b6c, 0x7a433ca9c49a9347},
		{"\x7f", 0x46659e2ec0f3c75b, 0xf39e43a41adb5d4f},
		{"\x80", 0xb6aa75aff6f3b434, 0x6ec0210d9ab133c5},
		{"\xff", 0xc25a08894c506b7f, 0xac0bbee7ce7542c7},
		{"\x00", 0x4610abe56eff5cb5, 0x51622daa78f83583},
		{"\xff\x01", 0xfc36bddd5923a70b, 0x372b66b956309e3b},
		{"\x01\xff", 0x40f277451f852d86, 0xbf93dbfd8c598b29},
		{strings.Repeat("\xfe", 8), 0x841b650c1866f891, 0x98ffdb99481602f9},
		{strings.Repeat("\x80", 9), 0x89588c998a738f65, 0x3f5c500057cdc78c},
		{strings.Repeat("\xff", 15), 0xe187e84efa24f091, 0x5536ce977875b220},
		{strings.Repeat("\xff", 16), 0xd8ce73d7a39a46e6, 0xd0ac179d2650b632},
		{strings.Repeat("\x80", 31), 0x1df38deb690be2d0, 0x74dd5deb4ef76ee8},
		{strings.Repeat("\x00\xff\x10\xfa\x99", 10), 0x51026842d5e7e8b5, 0x0f8b5f93bdbe3513},
		{strings.Repeat("\x00", 256), 0x04dd1c801accb31f, 0xad7f32d48dca9515},
		{strings.Repeat("a", 65537), 0xfe42e0c0f92b7bcd, 0xb5328d20c6ff1c67},
	} {
		if h, g := Hash([]byte(c.s)); h != c.h || g != c.g {
			t.Errorf("Hash(%q) = %#x, %#x, want %#x, %#x", c.s, h, g, c.h, c.g)
		}
		if h, g := reckoned([]byte(c.s)); h != c.h || g != c.g {
			t.Errorf("reckoned(%q) = %#x, %#x, want %#x, %#x", c.s, h, g, c.h, c.g)
		}
	}
}

// P11.1: nil and empty bytes are one, and both halves of their sum are 0.
func TestHashOfNothing(t *testing.T) {
	for _, b := range [][]byte{nil, {}, rising(20)[20:], rising(20)[:0]} {
		if h, g := Hash(b); h != 0 || g != 0 {
			t.Errorf("%#x, %#x", h, g)
		}
	}
}

// P11.1: each number of bytes left, behind no whole block, one, and several.
func TestHashAllLengths(t *testing.T) {
	for blocks := range 6 {
		for left := range 16 {
			n := 16*blocks + left
			agrees(t, rising(n))
			agrees(t, make([]byte, n))
			for _, x := range edges {
				agrees(t, bytes.Repeat([]byte{x}, n))
			}
		}
	}
}

// P11.1: an edge at each place, among the bytes that are left and within whole blocks, on grounds of several kinds.
func TestHashEdgeAtEachPlace(t *testing.T) {
	for _, n := range []int{1, 2, 7, 8, 9, 10, 14, 15, 16, 17, 24, 25, 31, 32, 47} {
		for _, ground := range [][]byte{make([]byte, n), rising(n), bytes.Repeat([]byte{255}, n)} {
			for at := range n {
				for _, x := range edges {
					b := slices.Clone(ground)
					b[at] = x
					agrees(t, b)
				}
			}
		}
	}
}

// P11.1: a byte of 128 or more among those that are left turns over all that is laid above it.
func TestHashSignReachesUp(t *testing.T) {
	for left := 2; left <= 15; left++ {
		for at := range left {
			b := bytes.Repeat([]byte{85}, left)
			b[at] = 255
			plain := plainSum(b)
			h, g := Hash(b)
			// The highest byte of a number has nothing above it, so that its sign is not to be seen.
			if seen := h != plain[0] || g != plain[1]; seen != (at%8 != 7) {
				t.Errorf("%d left, 255 at %d: a sign is seen: %v", left, at, seen)
			}
			agrees(t, b)
		}
	}
}

// plainSum is the sum of fewer than 16 bytes, if none of them had a sign.
func plainSum(b []byte) [2]uint64 {
	wide := append(slices.Clone(b), make([]byte, 16-len(b))...)
	h, g := finish(first(eight(wide, 0).Uint64()), second(eight(wide, 8).Uint64()), uint64(len(b)))
	return [2]uint64{h, g}
}

// P11.1: bytes within whole blocks have no sign: what 16 bytes are laid down to is what is read.
func TestHashNoSignInBlocks(t *testing.T) {
	for at := range 16 {
		for _, x := range []byte{127, 128, 255} {
			b := bytes.Repeat([]byte{85}, 16)
			b[at] = x
			h, g := Hash(b)
			if back := blockOf(h, g); !bytes.Equal(back, b) {
				t.Errorf("%d at %d: %v", x, at, back)
			}
		}
	}
}

// P11.1: bytes count at their places: two that change places have another sum.
func TestHashOrder(t *testing.T) {
	for _, n := range []int{2, 8, 15, 16, 17, 32, 45} {
		b := rising(n)
		for i := range n {
			for j := range i {
				c := slices.Clone(b)
				c[i], c[j] = c[j], c[i]
				differ(t, b, c)
				agrees(t, c)
			}
		}
	}
}

// P11.1: blocks count in their order, and each of them hangs on those ahead.
func TestHashOrderOfBlocks(t *testing.T) {
	b := rising(48)
	for _, order := range [][3]int{{0, 2, 1}, {1, 0, 2}, {1, 2, 0}, {2, 0, 1}, {2, 1, 0}} {
		var c []byte
		for _, i := range order {
			c = append(c, b[16*i:16*i+16]...)
		}
		differ(t, b, c)
		agrees(t, c)
	}
}

// P11.1: the length is laid over both halves, also one that has more than a byte or two.
func TestHashLength(t *testing.T) {
	for _, n := range []int{1, 7, 8, 9, 15, 16, 17, 255, 256, 257, 65535, 65536, 65537} {
		agrees(t, make([]byte, n))
		agrees(t, rising(n))
		// Of noughts alone only the length, and how many blocks there are, can tell.
		differ(t, make([]byte, n), make([]byte, n-1))
	}
}

// P11.1: the bytes, and what stands about them, are not changed and don't count.
func TestHashUnchanged(t *testing.T) {
	for n := range 50 {
		room := append([]byte{9, 8, 7}, rising(n+20)...)
		before := slices.Clone(room)
		b := room[3 : 3+n]
		h, g := Hash(b)
		token := Token(b)
		if !bytes.Equal(room, before) {
			t.Fatalf("%d bytes are changed", n)
		}
		clear(room[:3])
		clear(room[3+n:])
		if x, y := Hash(b); x != h || y != g || Token(b) != token {
			t.Errorf("what stands about %d bytes counts", n)
		}
	}
}

// P11.1: nothing is kept from call to call.
func TestHashAgain(t *testing.T) {
	h, g := Hash(rising(40))
	Hash(rising(23))
	Token(nil)
	if x, y := Hash(rising(40)); x != h || y != g {
		t.Errorf("%#x, %#x, then %#x, %#x", h, g, x, y)
	}
}

// P11.2: tokens that are known from elsewhere, above 0 and below.
func TestToken(t *testing.T) {
	for _, c := range []struct {
		s    string
		want int64
	}{
		{"", 0},
		{"123", -7468325962851647638},
		{"key", -6847573755651342660},
		{"hello", -3758069500696749310},
		{"9223372036854775807", 7162290910810015547},
		{strings.Repeat("\xfe", 8), -8927430733708461935},
		{strings.Repeat("\x10", 8), 1446172840243228796},
		{strings.Repeat("\x00\xff\x10\xfa\x99", 10), 5837342703291459765},
	} {
		if token := Token([]byte(c.s)); token != c.want {
			t.Errorf("Token(%q) = %d, want %d", c.s, token, c.want)
		}
	}
}

// P11.2: nothing has the token 0.
func TestTokenOfNothing(t *testing.T) {
	if a, b := Token(nil), Token([]byte{}); a != 0 || b != 0 {
		t.Error(a, b)
	}
}

// P11.2: the token is the first half's number, whatever its sign.
func TestTokenIsFirstHalf(t *testing.T) {
	var below, above int
	for n := range 200 {
		b := rising(n)
		h, _ := reckoned(b)
		token := Token(b)
		// No sum here has 2^63 as its first half.
		if uint64(token) != h {
			t.Errorf("Token of %d bytes = %d, want %d", n, token, int64(h))
		}
		if token < 0 {
			below++
		} else {
			above++
		}
	}
	if below == 0 || above == 0 {
		t.Error(below, above)
	}
}

// P11.2: of bytes whose first half is -2^63 the token is 2^63 - 1; the numbers next to it stay, and the second half doesn't count.
func TestTokenEdges(t *testing.T) {
	for _, c := range []struct {
		h    uint64
		want int64
	}{
		{1 << 63, math.MaxInt64},
		{1<<63 + 1, math.MinInt64 + 1},
		{1<<63 + 2, math.MinInt64 + 2},
		{1<<63 - 1, math.MaxInt64},
		{1<<63 - 2, math.MaxInt64 - 1},
		{0, 0},
		{1, 1},
		{math.MaxUint64, -1},
	} {
		for _, g := range []uint64{0, 1, 1 << 63, 1<<63 - 1, math.MaxUint64, 0x0123456789abcdef} {
			b := blockOf(c.h, g)
			if x, y := Hash(b); x != c.h || y != g {
				t.Fatalf("Hash(%v) = %#x, %#x, want %#x, %#x", b, x, y, c.h, g)
			}
			if token := Token(b); token != c.want {
				t.Errorf("Token(%v) = %d, want %d", b, token, c.want)
			}
		}
	}
}

// P11.2: two such sums of bytes, worked out by another program.
func TestTokenLowest(t *testing.T) {
	for _, b := range [][]byte{
		{0x65, 0x3c, 0xbe, 0xfb, 0x85, 0xec, 0x31, 0x11, 0xb4, 0xe3, 0x8f, 0xa9, 0xbc, 0x7c, 0xbc, 0xae},
		{0xa1, 0xde, 0xd3, 0x80, 0x95, 0x97, 0xe1, 0xfa, 0x5a, 0x0c, 0x90, 0x27, 0x50, 0xd0, 0xd7, 0xf2},
	} {
		if h, _ := Hash(b); h != 1<<63 {
			t.Errorf("Hash(%v) = %#x", b, h)
		}
		if token := Token(b); token != math.MaxInt64 {
			t.Errorf("Token(%v) = %d", b, token)
		}
	}
}
