package routing

import (
	"bytes"
	"slices"
	"testing"

	"signalbox/api"
)

// P12.2
func TestParts(t *testing.T) {
	for _, c := range []struct {
		key  string
		want [][]byte
	}{
		{"", nil},
		{"\x00\x00\x00", of("")},
		{"\x00\x01a\x00", of("a")},
		{"\x00\x01\x00\x00", of("\x00")},
		{"\x00\x01\x01\x00", of("\x01")},
		{"\x00\x01a\x00\x00\x01b\x00", of("a", "b")},
		{"\x00\x01b\x00\x00\x01a\x00", of("b", "a")},
		{"\x00\x00\x00\x00\x00\x00", of("", "")},
		{"\x00\x00\x00\x00\x01a\x00", of("", "a")},
		{"\x00\x01a\x00\x00\x00\x00", of("a", "")},
		{"\x00\x01a\x00\x00\x00\x00\x00\x02bc\x00", of("a", "", "bc")},
		{"\x00\x05a\x00\x00\x01b\x00", of("a\x00\x00\x01b")},
		{"\x00\x02\xff\xfe\x00\x00\x01\x80\x00", of("\xff\xfe", "\x80")},
		{"\x01\x00" + some(256) + "\x00", of(some(256))},
		{"\xff\xff" + some(65535) + "\x00\x00\x01a\x00", of(some(65535), "a")},
		{"\x00\x01a\x00\xff\xff" + some(65535) + "\x00", of("a", some(65535))},
	} {
		if l, e := Parts([]byte(c.key)); e != api.OK || !same(l, c.want) {
			t.Errorf("Parts(%q) = %q, %v, want %q", short([]byte(c.key)), brief(l), e, brief(c.want))
		}
	}
}

// P12.2: of no bytes there are no parts.
func TestPartsOfNothing(t *testing.T) {
	for _, key := range [][]byte{nil, {}, []byte("abc")[:0]} {
		if l, e := Parts(key); e != api.OK || len(l) != 0 {
			t.Error(l, e)
		}
	}
}

// P12.2: at the first part, and at each later one.
func TestWrongKeys(t *testing.T) {
	for _, ahead := range []string{"", "\x00\x01a\x00", "\x00\x00\x00", "\x00\x01a\x00\x00\x02bc\x00", "\xff\xff" + some(65535) + "\x00"} {
		for _, c := range []struct {
			key  string
			want api.Errno
		}{
			// One byte is left.
			{"\x00", api.ErrShort}, {"\x01", api.ErrShort}, {"\xff", api.ErrShort},
			// No part, and nothing behind it.
			{"\x00\x00", api.ErrShort},
			// Fewer than the two bytes say.
			{"\x00\x01", api.ErrShort}, {"\x00\x02a", api.ErrShort}, {"\x00\x03a\x00", api.ErrShort}, {"\x01\x00a\x00", api.ErrShort}, {"\xff\xffa\x00", api.ErrShort},
			{"\xff\xff" + some(65534), api.ErrShort},
			// Just the part, whatever its last byte is.
			{"\x00\x01a", api.ErrShort}, {"\x00\x01\x00", api.ErrShort}, {"\x00\x02a\x00", api.ErrShort}, {"\x00\x02a\x01", api.ErrShort},
			{"\xff\xff" + some(65535), api.ErrShort},
			// A byte behind the part that isn't 0.
			{"\x00\x00\x01", api.ErrForm}, {"\x00\x01a\x01", api.ErrForm}, {"\x00\x01a\xff", api.ErrForm}, {"\x00\x01\x00\x01", api.ErrForm}, {"\x00\x02a\x00\x80", api.ErrForm},
			{"\xff\xff" + some(65535) + "\x01", api.ErrForm},
			// What is behind such a byte doesn't count.
			{"\x00\x00\x01\x00", api.ErrForm}, {"\x00\x01a\x01\x00", api.ErrForm}, {"\x00\x01a\x01\x00\x09", api.ErrForm}, {"\x00\x01a\x01\x00\x01b\x00", api.ErrForm}, {"\x00\x01a\x01\x00\x01b", api.ErrForm},
			// A good part ahead of such ones, as an error at each place.
			{"\x00\x01c\x00\x00\x01a", api.ErrShort}, {"\x00\x01c\x00\x00\x01a\x02", api.ErrForm},
		} {
			key := []byte(ahead + c.key)
			if l, e := Parts(key); e != c.want || len(l) != 0 {
				t.Errorf("Parts(%q behind %q) = %q, %v, want %v", short([]byte(c.key)), short([]byte(ahead)), brief(l), e, c.want)
			}
		}
	}
}

// P12.2: each byte that isn't 0 is wrong behind a part.
func TestEachByteBehindPart(t *testing.T) {
	for x := range 256 {
		want := api.ErrForm
		if x == 0 {
			want = api.OK
		}
		for _, ahead := range []string{"\x00\x00", "\x00\x01a", "\x00\x01a\x00\x00\x01b"} {
			if _, e := Parts(append([]byte(ahead), byte(x))); e != want {
				t.Errorf("%d behind %q: %v", x, ahead, e)
			}
		}
	}
}

// P12.2: a key that is cut is too short, but just behind a part.
func TestCutKeys(t *testing.T) {
	parts := of("a", "", "bcd", "\x00\x00", some(300), "e")
	var key []byte
	ends := map[int]int{0: 0}
	for i, p := range parts {
		key = append(key, byte(len(p)>>8), byte(len(p)))
		key = append(key, p...)
		key = append(key, 0)
		ends[len(key)] = i + 1
	}
	for n := range len(key) + 1 {
		l, e := Parts(key[:n])
		if many, whole := ends[n]; whole {
			if e != api.OK || !same(l, parts[:many]) {
				t.Errorf("%d bytes: %q, %v", n, brief(l), e)
			}
		} else if e != api.ErrShort || len(l) != 0 {
			t.Errorf("%d bytes: %q, %v", n, brief(l), e)
		}
	}
}

// plainParts are the parts by the document's words, from a place on.
func plainParts(key []byte, at int) ([][]byte, api.Errno) {
	left := len(key) - at
	if left == 0 {
		return nil, api.OK
	}
	if left < 2 {
		return nil, api.ErrShort
	}
	says := 256*int(key[at]) + int(key[at+1])
	if left-2 < says+1 {
		return nil, api.ErrShort
	}
	if key[at+2+says] != 0 {
		return nil, api.ErrForm
	}
	behind, e := plainParts(key, at+2+says+1)
	if e != api.OK {
		return nil, e
	}
	return append([][]byte{key[at+2 : at+2+says]}, behind...), api.OK
}

// P12.2: all short keys of some bytes.
func TestAllShortKeys(t *testing.T) {
	count := map[api.Errno]int{}
	for _, key := range allBytes(8, []byte{0, 1, 2, 3}) {
		l, e := Parts(key)
		want, wrong := plainParts(key, 0)
		if e != wrong || !same(l, want) {
			t.Fatalf("Parts(%v) = %v, %v, want %v, %v", key, l, e, want, wrong)
		}
		count[e]++
	}
	if count[api.OK] == 0 || count[api.ErrShort] == 0 || count[api.ErrForm] == 0 || len(count) != 3 {
		t.Error(count)
	}
}

// P12.2: the key isn't changed, and what stands behind it doesn't count.
func TestPartsChangeNoKey(t *testing.T) {
	room := []byte("\x00\x01a\x00\x00\x02bc\x00\x00\x01d\x00")
	before := slices.Clone(room)
	for n := range len(room) + 1 {
		Parts(room[:n])
		if !bytes.Equal(room, before) {
			t.Fatalf("%d bytes: %q", n, room)
		}
	}
	if l, e := Parts(room[:9]); e != api.OK || !same(l, of("a", "bc")) {
		t.Errorf("%q, %v", l, e)
	}
	if l, e := Parts(room[:8]); e != api.ErrShort || len(l) != 0 {
		t.Errorf("%q, %v", l, e)
	}
}

// P12.2: parts are new memory: none shares any with the key, or with another one.
func TestPartsAreNewMemory(t *testing.T) {
	key := []byte("\x00\x02ab\x00\x00\x00\x00\x00\x02cd\x00")
	before := slices.Clone(key)
	l, _ := Parts(key)
	want := of("ab", "", "cd")
	for i := range l {
		for j := range l[i] {
			l[i][j] ^= 255
			want[i][j] ^= 255
		}
		longer := append(l[i], "xyz"...)
		if len(longer) != len(want[i])+3 || !same(l, want) || !bytes.Equal(key, before) {
			t.Errorf("part %d: %q, key %q", i, l, key)
		}
	}
	l, _ = Parts(key)
	clear(key)
	if !same(l, of("ab", "", "cd")) {
		t.Errorf("%q", l)
	}
}
