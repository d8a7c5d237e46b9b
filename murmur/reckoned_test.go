package murmur

import (
	"math/big"
)

// The sum is reckoned here once more, from the document's words alone, with whole numbers that have no width: what is to be a rest by 2^64 is made one behind each step, and nothing hangs on how the words of a machine wrap round.

var (
	modulus = power(64)
	factorA = hex("87c37b91114253d5")
	factorB = hex("4cf5ad432745937f")
)

// hex is the whole number of such digits.
func hex(digits string) *big.Int {
	x, ok := new(big.Int).SetString(digits, 16)
	if !ok {
		panic(digits)
	}
	return x
}

// power is 2^n.
func power(n int) *big.Int {
	return new(big.Int).Exp(big.NewInt(2), big.NewInt(int64(n)), nil)
}

// rest is that by 2^64, from 0 on.
func rest(x *big.Int) *big.Int {
	return new(big.Int).Mod(x, modulus)
}

func plus(x, y *big.Int) *big.Int {
	return rest(new(big.Int).Add(x, y))
}

func minus(x, y *big.Int) *big.Int {
	return rest(new(big.Int).Sub(x, y))
}

func times(x, y *big.Int) *big.Int {
	return rest(new(big.Int).Mul(x, y))
}

func xor(x, y *big.Int) *big.Int {
	return new(big.Int).Xor(x, y)
}

// shifted is x shifted right by n.
func shifted(x *big.Int, n int) *big.Int {
	return new(big.Int).Div(x, power(n))
}

// turned is x turned left by n: the highest n bits become the lowest.
func turned(x *big.Int, n int) *big.Int {
	return new(big.Int).Add(times(x, power(n)), shifted(x, 64-n))
}

func reckonedFirst(k *big.Int) *big.Int {
	return times(turned(times(k, factorA), 31), factorB)
}

func reckonedSecond(k *big.Int) *big.Int {
	return times(turned(times(k, factorB), 33), factorA)
}

func reckonedMixed(k *big.Int) *big.Int {
	k = xor(k, shifted(k, 33))
	k = times(k, hex("ff51afd7ed558ccd"))
	k = xor(k, shifted(k, 33))
	k = times(k, hex("c4ceb9fe1a85ec53"))
	return xor(k, shifted(k, 33))
}

// eight are the bytes from place at on as a number, the lowest first.
func eight(b []byte, at int) *big.Int {
	x := new(big.Int)
	for i := 7; i >= 0; i-- {
		x.Mul(x, big.NewInt(256))
		x.Add(x, big.NewInt(int64(b[at+i])))
	}
	return x
}

// reckonedBlocks are both halves behind the whole 16 bytes, and the bytes that are left.
func reckonedBlocks(b []byte) (h, g *big.Int, left []byte) {
	h, g = new(big.Int), new(big.Int)
	five := big.NewInt(5)
	at := 0
	for ; at+16 <= len(b); at += 16 {
		h = xor(h, reckonedFirst(eight(b, at)))
		h = plus(times(plus(turned(h, 27), g), five), hex("52dce729"))
		g = xor(g, reckonedSecond(eight(b, at+8)))
		g = plus(times(plus(turned(g, 31), h), five), hex("38495ab5"))
	}
	return h, g, b[at:]
}

// reckonedLeft are the two numbers over which bytes that are left are laid, from the first to the last.
func reckonedLeft(left []byte) (k, m *big.Int) {
	k, m = new(big.Int), new(big.Int)
	for i, x := range left {
		n := int64(x)
		if n > 127 {
			n -= 256
		}
		laid := times(rest(big.NewInt(n)), power(8*(i%8)))
		if i < 8 {
			k = xor(k, laid)
		} else {
			m = xor(m, laid)
		}
	}
	return k, m
}

// reckoned are both halves of the sum of bytes.
func reckoned(b []byte) (uint64, uint64) {
	h, g, left := reckonedBlocks(b)
	k, m := reckonedLeft(left)
	if len(left) > 8 {
		g = xor(g, reckonedSecond(m))
	}
	if len(left) > 0 {
		h = xor(h, reckonedFirst(k))
	}
	length := big.NewInt(int64(len(b)))
	h, g = xor(h, length), xor(g, length)
	h = plus(h, g)
	g = plus(g, h)
	h, g = reckonedMixed(h), reckonedMixed(g)
	h = plus(h, g)
	g = plus(g, h)
	return h.Uint64(), g.Uint64()
}

// undone is by what one multiplies to undo a multiplication by x.
func undone(x *big.Int) *big.Int {
	return new(big.Int).ModInverse(x, modulus)
}

// unmixed is the number that mixed is k: a number from which that shifted by 33 was taken off by xor has it laid over again by the same.
func unmixed(k *big.Int) *big.Int {
	k = xor(k, shifted(k, 33))
	k = times(k, undone(hex("c4ceb9fe1a85ec53")))
	k = xor(k, shifted(k, 33))
	k = times(k, undone(hex("ff51afd7ed558ccd")))
	return xor(k, shifted(k, 33))
}

// blockOf are the 16 bytes whose sum has these halves: the steps of the sum, undone from the last to the first.
func blockOf(half, other uint64) []byte {
	h, g := new(big.Int).SetUint64(half), new(big.Int).SetUint64(other)
	five := undone(big.NewInt(5))
	g = minus(g, h)
	h = minus(h, g)
	h, g = unmixed(h), unmixed(g)
	g = minus(g, h)
	h = minus(h, g)
	length := big.NewInt(16)
	h, g = xor(h, length), xor(g, length)
	m := turned(minus(times(minus(g, hex("38495ab5")), five), h), 64-31)
	k := turned(times(minus(h, hex("52dce729")), five), 64-27)
	k = times(turned(times(k, undone(factorB)), 64-31), undone(factorA))
	m = times(turned(times(m, undone(factorA)), 64-33), undone(factorB))
	return append(laidDown(k), laidDown(m)...)
}

// laidDown is a number in eight bytes, the lowest first.
func laidDown(x *big.Int) []byte {
	b := x.FillBytes(make([]byte, 8))
	for i := range 4 {
		b[i], b[7-i] = b[7-i], b[i]
	}
	return b
}
