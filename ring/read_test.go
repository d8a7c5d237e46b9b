package ring

import (
	"math/big"
	"strconv"
	"strings"
	"testing"

	"signalbox/api"
)

// plainRead is P13.3 once more, by whole numbers that have no width.
func plainRead(s string) (int64, api.Errno) {
	digits := s
	if s != "" && s[0] == '-' {
		digits = s[1:]
	}
	if digits == "" {
		return 0, api.ErrForm
	}
	sum := new(big.Int)
	for _, c := range []byte(digits) {
		if c < '0' || c > '9' {
			return 0, api.ErrForm
		}
		sum.Mul(sum, big.NewInt(10))
		sum.Add(sum, big.NewInt(int64(c-'0')))
	}
	if len(digits) < len(s) {
		sum.Neg(sum)
	}
	if sum.Cmp(big.NewInt(least)) < 0 || sum.Cmp(big.NewInt(greatest)) > 0 {
		return 0, api.ErrForm
	}
	return sum.Int64(), api.OK
}

// held holds what Read tells of a text against what it is to tell.
func held(t *testing.T, s string, want int64, errno api.Errno) {
	t.Helper()
	if n, e := Read(s); n != want || e != errno {
		if len(s) > 40 {
			s = s[:20] + "..." + s[len(s)-17:]
		}
		t.Errorf("Read(%q): %d, %v, not %d, %v", s, n, e, want, errno)
	}
}

// P13.3: numbers that may be.
func TestRead(t *testing.T) {
	noughts := strings.Repeat("0", 100000)
	cases := map[string]int64{
		"0": 0, "1": 1, "5": 5, "9": 9, "-1": -1, "-9": -9, "-0": 0, "10": 10, "-10": -10, "1234567890": 1234567890,
		"00": 0, "-00": 0, "007": 7, "-012": -12, "0100": 100, "-000100": -100,
		noughts: 0, "-" + noughts: 0, noughts + "7": 7, "-" + noughts + "7": -7,
		"9223372036854775807": greatest, "9223372036854775806": greatest - 1, "0009223372036854775807": greatest, noughts + "9223372036854775807": greatest,
		"-9223372036854775808": least, "-9223372036854775807": least + 1, "-0009223372036854775808": least, "-" + noughts + "9223372036854775808": least,
		"999999999999999999": 999999999999999999, "1000000000000000000": 1000000000000000000, "-999999999999999999": -999999999999999999,
		"4294967295": 4294967295, "4294967296": 4294967296, "2147483648": 2147483648, "-2147483649": -2147483649,
	}
	for s, want := range cases {
		held(t, s, want, api.OK)
	}
}

// P13.3: what is no number, and numbers that are too low or too high.
func TestReadRefuses(t *testing.T) {
	noughts := strings.Repeat("0", 100000)
	cases := []string{
		"", "-", "--", "--1", "-+1", "+", "+1", "+0", "+-1", "+9223372036854775807", "1-", "1-1", "1+1", "-1-",
		" ", " 1", "1 ", "1 2", "- 1", "-1 ", "\t1", "1\n", "\n", "\x001", "1\x00", "-\x00",
		"a", "1a", "a1", "0x1", "0X1", "-0x1", "0b1", "0o7", "1_0", "_1", "1_", "0_1", "1,0", "1.0", "1.", ".1", "1e3", "1E3", "1i",
		"inf", "nan", "NaN", "-Inf", "null", "true", "\u0661", "1\u0662", "\uff11", "\u2212" + "1", "\xb11", "\xff",
		"9223372036854775808", "9223372036854775809", "-9223372036854775809", "-9223372036854775810", "0009223372036854775808", "-0009223372036854775809",
		"9223372036854775810", "9999999999999999999", "10000000000000000000", "-9999999999999999999",
		"18446744073709551615", "18446744073709551616", "18446744073709551617", "-18446744073709551615", "-18446744073709551616", "-18446744073709551617",
		"27670116110564327423", "27670116110564327424", "36893488147419103232", "-27670116110564327425", "92233720368547758070", "-92233720368547758080",
		"340282366920938463463374607431768211456", "340282366920938463463374607431768211457", "-340282366920938463463374607431768211456",
		"1" + noughts, "-1" + noughts, strings.Repeat("9", 100000), "-" + strings.Repeat("9", 100000), noughts + "x", "x" + noughts, strings.Repeat("9", 100000) + "x", noughts + "9223372036854775808",
	}
	for _, s := range cases {
		held(t, s, 0, api.ErrForm)
	}
}

// P13.3: each byte that is no digit is refused, at each place of a number; a minus may stand first.
func TestReadAnyByte(t *testing.T) {
	for _, s := range []string{"", "0", "12", "-12", "1234567890123456789012345"} {
		for at := range len(s) + 1 {
			for c := range 256 {
				text := s[:at] + string([]byte{byte(c)}) + s[at:]
				want, errno := plainRead(text)
				held(t, text, want, errno)
			}
		}
	}
}

// P13.3: all short texts of bytes that a number has, or might be taken to have.
func TestReadShortTexts(t *testing.T) {
	texts := []string{""}
	for range 5 {
		var longer []string
		for _, s := range texts {
			for _, c := range "-+019 _" {
				longer = append(longer, s+string(c))
			}
		}
		for _, s := range longer {
			want, errno := plainRead(s)
			held(t, s, want, errno)
		}
		texts = longer
	}
}

// P13.3: numbers about the bounds, and about what a word of 64 bits wraps round at, with and without needless noughts.
func TestReadAboutBounds(t *testing.T) {
	one := big.NewInt(1)
	for bit := range uint(70) {
		for _, sign := range []int64{1, -1} {
			for near := int64(-3); near <= 3; near++ {
				n := new(big.Int).Lsh(one, bit)
				n.Mul(n, big.NewInt(sign)).Add(n, big.NewInt(near))
				s := n.String()
				padded := strings.Replace("000"+s, "000-", "-000", 1)
				for _, text := range []string{s, padded} {
					want, errno := plainRead(text)
					held(t, text, want, errno)
				}
			}
		}
	}
}

// P13.3: what is read is what was told, whatever number it is.
func TestReadComesBack(t *testing.T) {
	n := int64(1)
	for range 20000 {
		n = n*6364136223846793005 + 1442695040888963407
		held(t, strconv.FormatInt(n, 10), n, api.OK)
		held(t, strconv.FormatInt(n>>40, 10), n>>40, api.OK)
	}
}
