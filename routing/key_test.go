package routing

import (
	"bytes"
	"math"
	"slices"
	"strings"
	"testing"

	"signalbox/api"
)

// keyed are parts, with their key and token as another program worked them out.
var keyed = []struct {
	parts [][]byte
	key   string
	token int64
}{
	{of(""), "", 0},
	{of("a"), "a", -8839064797231613815},
	{of("key"), "key", -6847573755651342660},
	{of("a", "b"), "\x00\x01a\x00\x00\x01b\x00", 7470152180878494447},
	{of("b", "a"), "\x00\x01b\x00\x00\x01a\x00", 5702761616633875513},
	{of("", ""), "\x00\x00\x00\x00\x00\x00", 9027482631457916009},
	{of("", "", ""), "\x00\x00\x00\x00\x00\x00\x00\x00\x00", 8297479994805284640},
	{of("a", ""), "\x00\x01a\x00\x00\x00\x00", -7005710260653943986},
	{of("", "a"), "\x00\x00\x00\x00\x01a\x00", -3901752403867371625},
	{of("a", "b", "c"), "\x00\x01a\x00\x00\x01b\x00\x00\x01c\x00", -2802634993524639759},
	{of("ab", "c"), "\x00\x02ab\x00\x00\x01c\x00", -3322137777577922905},
	{of("a", "bc"), "\x00\x01a\x00\x00\x02bc\x00", -1461468050663314383},
	{of("\xff\xfe", "\x80"), "\x00\x02\xff\xfe\x00\x00\x01\x80\x00", -8680450805217200414},
	{of("\x00\x00\x00\x01", "hello"), "\x00\x04\x00\x00\x00\x01\x00\x00\x05hello\x00", -5964652701051312773},
	{of(strings.Repeat("x", 65535), "y"), "\xff\xff" + strings.Repeat("x", 65535) + "\x00\x00\x01y\x00", 8046185791428571570},
	{of("y", strings.Repeat("x", 65535)), "\x00\x01y\x00\xff\xff" + strings.Repeat("x", 65535) + "\x00", 3072399789312046874},
	{of(strings.Repeat("x", 65535)), strings.Repeat("x", 65535), 2322445093779760596},
	{of(strings.Repeat("x", 65536)), strings.Repeat("x", 65536), -3050425722502227786},
	// One part whose bytes are a key of several isn't laid down anew.
	{of("\x00\x01a\x00\x00\x01b\x00"), "\x00\x01a\x00\x00\x01b\x00", 7470152180878494447},
	// Of these bytes the sum's first half is the lowest number, which is no token.
	{of("\x65\x3c\xbe\xfb\x85\xec\x31\x11\xb4\xe3\x8f\xa9\xbc\x7c\xbc\xae"), "\x65\x3c\xbe\xfb\x85\xec\x31\x11\xb4\xe3\x8f\xa9\xbc\x7c\xbc\xae", math.MaxInt64},
}

// P12.1
func TestKey(t *testing.T) {
	for _, c := range keyed {
		key, e := Key(c.parts)
		if e != api.OK || string(key) != c.key {
			t.Errorf("Key(%q) = %q, %v, want %q", brief(c.parts), short(key), e, short([]byte(c.key)))
		}
	}
}

// P12.1
func TestToken(t *testing.T) {
	for _, c := range keyed {
		if token, e := Token(c.parts); e != api.OK || token != c.token {
			t.Errorf("Token(%q) = %d, %v, want %d", brief(c.parts), token, e, c.token)
		}
	}
}

// P12.1: of no parts there is no key.
func TestKeyOfNoParts(t *testing.T) {
	for _, parts := range [][][]byte{nil, {}, of("a")[:0]} {
		wrongKey(t, parts, api.ErrArg)
	}
}

// wrongKey fails unless that is the error of the parts, with no key and no token.
func wrongKey(t *testing.T, parts [][]byte, want api.Errno) {
	t.Helper()
	if key, e := Key(parts); e != want || len(key) != 0 {
		t.Errorf("Key(%q) = %q, %v, want %v", brief(parts), short(key), e, want)
	}
	if token, e := Token(parts); e != want || token != 0 {
		t.Errorf("Token(%q) = %d, %v, want %v", brief(parts), token, e, want)
	}
}

// P12.1: a part that is nil is one of no bytes.
func TestKeyOfNil(t *testing.T) {
	for _, parts := range [][][]byte{{nil}, {{}}} {
		if key, e := Key(parts); e != api.OK || len(key) != 0 {
			t.Error(key, e)
		}
		if token, e := Token(parts); e != api.OK || token != 0 {
			t.Error(token, e)
		}
	}
	if key, e := Key([][]byte{nil, []byte("a"), nil}); e != api.OK || string(key) != "\x00\x00\x00\x00\x01a\x00\x00\x00\x00" {
		t.Error(key, e)
	}
}

// P12.1: one part may be as long as it likes, and its key is nothing but its bytes.
func TestKeyOfOne(t *testing.T) {
	for _, n := range []int{0, 1, 2, 255, 256, 65534, 65535, 65536, 65537, 200000} {
		if key, e := Key(of(some(n))); e != api.OK || string(key) != some(n) {
			t.Errorf("%d bytes: %d, %v", n, len(key), e)
		}
		if _, e := Token(of(some(n))); e != api.OK {
			t.Errorf("Token of %d bytes: %v", n, e)
		}
	}
}

// P12.1: how many bytes a part of several has stands ahead of it, the highest byte first, wherever it stands.
func TestLengthsInKey(t *testing.T) {
	for n, ahead := range map[int]string{
		0: "\x00\x00", 1: "\x00\x01", 127: "\x00\x7f", 128: "\x00\x80", 255: "\x00\xff",
		256: "\x01\x00", 257: "\x01\x01", 4660: "\x12\x34", 32767: "\x7f\xff", 32768: "\x80\x00", 65280: "\xff\x00", 65534: "\xff\xfe", 65535: "\xff\xff",
	} {
		laid := ahead + some(n) + "\x00"
		for _, c := range []struct {
			parts [][]byte
			want  string
		}{
			{of(some(n), "a"), laid + "\x00\x01a\x00"},
			{of("a", some(n)), "\x00\x01a\x00" + laid},
			{of("", some(n), "a"), "\x00\x00\x00" + laid + "\x00\x01a\x00"},
		} {
			if key, e := Key(c.parts); e != api.OK || string(key) != c.want {
				t.Errorf("Key(%q) = %q, %v, want %q", brief(c.parts), short(key), e, short([]byte(c.want)))
			}
		}
	}
}

// P12.1: of several none may have more than 65535 bytes, wherever it stands.
func TestLongParts(t *testing.T) {
	for _, n := range []int{65536, 65537, 65536 + 256, 1 << 17, 1<<24 + 1} {
		long := some(n)
		for _, parts := range [][][]byte{
			of(long, "a"), of("a", long), of(long, ""), of("", long), of(long, long),
			of("a", long, "b"), of("a", "b", long), of(some(65535), long),
		} {
			wrongKey(t, parts, api.ErrLong)
		}
	}
}

// P12.1: the parts, and what stands about them, are not changed.
func TestKeyChangesNoParts(t *testing.T) {
	for n := range 4 {
		room := [][]byte{[]byte("abcdef"), []byte("ghijkl"), []byte("mnopqr"), []byte("stuvwx")}
		var parts [][]byte
		for i := range n {
			parts = append(parts, room[i][1:3])
		}
		before := deep(room)
		Key(parts)
		Token(parts)
		if !same(room, before) {
			t.Errorf("%d parts: %q", n, room)
		}
		for i := range n {
			if string(parts[i]) != string(before[i][1:3]) {
				t.Errorf("%d parts: %q", n, parts)
			}
		}
	}
}

// P12.1: a key is new memory: whoever changes it changes no part, and the other way.
func TestKeyIsNewMemory(t *testing.T) {
	for _, texts := range [][]string{{"abc"}, {"abc", "de"}, {"abc", "", "de"}} {
		parts := of(texts...)
		key, _ := Key(parts)
		want := slices.Clone(key)
		for _, p := range parts {
			for i := range p {
				p[i]++
			}
		}
		if !bytes.Equal(key, want) {
			t.Errorf("key of %q: %q", texts, key)
		}
		parts = of(texts...)
		key, _ = Key(parts)
		for i := range key {
			key[i]++
		}
		key = append(key, "more"...)
		if !same(parts, of(texts...)) {
			t.Errorf("parts %q: %q", texts, parts)
		}
	}
}

// P12.1: one part's key doesn't reach into what stands behind the part.
func TestKeyOfOneEndsThere(t *testing.T) {
	room := []byte("abcdef")
	key, _ := Key([][]byte{room[:3]})
	key = append(key, "xyz"...)
	if string(room) != "abcdef" {
		t.Errorf("%q, %q", room, key)
	}
}
