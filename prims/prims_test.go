package prims

import (
	"bytes"
	"math"
	"strings"
	"testing"

	"signalbox/api"
)

// tails are what may stand behind.
var tails = [][]byte{nil, {0}, {255}, {9, 8, 7}}

// texts have bytes of all kinds, those that are no letters of any alphabet too.
func texts() []string {
	all := make([]byte, 256)
	for i := range all {
		all[i] = byte(i)
	}
	return []string{"", "a", "ab", "\x00", "\xff\xfe\xc3", "na\u00efve", string(all), strings.Repeat("xyz", 100)}
}

// values are of each kind, of Set with and without bytes.
func values() []api.Value {
	return []api.Value{
		{Kind: api.Null}, {Kind: api.Unset},
		{Kind: api.Set}, {Kind: api.Set, Bytes: []byte{}}, {Kind: api.Set, Bytes: []byte{255, 255, 255, 255}},
		{Kind: api.Set, Bytes: []byte{7}}, {Kind: api.Set, Bytes: bytes.Repeat([]byte{1, 2}, 40000)},
	}
}

// joined are bytes one behind the other, in new memory.
func joined(parts ...[]byte) []byte {
	return bytes.Join(parts, nil)
}

// sameValue tells whether two values are alike; nil and empty bytes are.
func sameValue(v, w api.Value) bool {
	return v.Kind == w.Kind && bytes.Equal(v.Bytes, w.Bytes)
}

// P2.1: a short, how many, and the bytes.
func TestText(t *testing.T) {
	for _, c := range []struct {
		s    string
		want []byte
	}{
		{"ab", []byte{0, 2, 97, 98}},
		{"", []byte{0, 0}},
		{"\x00\xff", []byte{0, 2, 0, 255}},
		{strings.Repeat("q", 255), joined([]byte{0, 255}, bytes.Repeat([]byte{'q'}, 255))},
		{strings.Repeat("q", 256), joined([]byte{1, 0}, bytes.Repeat([]byte{'q'}, 256))},
		{strings.Repeat("q", 65534), joined([]byte{255, 254}, bytes.Repeat([]byte{'q'}, 65534))},
		{strings.Repeat("q", 65535), joined([]byte{255, 255}, bytes.Repeat([]byte{'q'}, 65535))},
	} {
		if b, e := Text(c.s); !bytes.Equal(b, c.want) || e != api.OK {
			t.Errorf("Text of %d bytes: %d bytes, %d", len(c.s), len(b), e)
		}
	}
}

// P2.1: more bytes than a short can tell.
func TestTextLong(t *testing.T) {
	for _, n := range []int{65536, 65537, 1 << 17, 1 << 20} {
		if b, e := Text(strings.Repeat("q", n)); len(b) != 0 || e != api.ErrLong {
			t.Errorf("Text of %d bytes: %d bytes, %d", n, len(b), e)
		}
	}
	if b, e := Text(strings.Repeat("\u00e9", 32768)); len(b) != 0 || e != api.ErrLong {
		t.Error("bytes are to be counted, not runes:", len(b), e)
	}
}

// P2.1: the text, and what is behind.
func TestGetText(t *testing.T) {
	for _, c := range []struct {
		b    []byte
		s    string
		rest []byte
	}{
		{[]byte{0, 2, 97, 98}, "ab", nil},
		{[]byte{0, 2, 97, 98, 99}, "ab", []byte{99}},
		{[]byte{0, 0}, "", nil},
		{[]byte{0, 0, 5, 6}, "", []byte{5, 6}},
		{[]byte{0, 1, 255, 0}, "\xff", []byte{0}},
		{joined([]byte{255, 255}, bytes.Repeat([]byte{'q'}, 65536)), strings.Repeat("q", 65535), []byte{'q'}},
	} {
		if s, rest, e := GetText(c.b); s != c.s || !bytes.Equal(rest, c.rest) || e != api.OK {
			t.Errorf("GetText of %d bytes: %d bytes, %v, %d", len(c.b), len(s), rest, e)
		}
	}
}

// P2.1: bytes that end ahead of what they say; room behind their length doesn't count.
func TestGetTextShort(t *testing.T) {
	for _, b := range [][]byte{nil, {}, {0}, {255}, {0, 1}, {0, 2, 97}, {255, 255, 1}, {1, 0, 97}, make([]byte, 1, 64)} {
		if s, rest, e := GetText(b); s != "" || len(rest) != 0 || e != api.ErrShort {
			t.Errorf("GetText(%v) = %q, %v, %d", b, s, rest, e)
		}
	}
	whole, _ := Text(strings.Repeat("q", 300))
	for n := range whole {
		if s, rest, e := GetText(whole[:n]); s != "" || len(rest) != 0 || e != api.ErrShort {
			t.Errorf("GetText of %d bytes out of %d: %q, %v, %d", n, len(whole), s, rest, e)
		}
	}
	most, _ := Text(strings.Repeat("q", 65535))
	if _, _, e := GetText(most[:len(most)-1]); e != api.ErrShort {
		t.Error("one byte too early:", e)
	}
}

// P2.1: an int, how many, and the bytes; a short's bound is none here.
func TestLong(t *testing.T) {
	for _, c := range []struct {
		s    string
		want []byte
	}{
		{"ab", []byte{0, 0, 0, 2, 97, 98}},
		{"", []byte{0, 0, 0, 0}},
		{"\xff", []byte{0, 0, 0, 1, 255}},
		{strings.Repeat("q", 65535), joined([]byte{0, 0, 255, 255}, bytes.Repeat([]byte{'q'}, 65535))},
		{strings.Repeat("q", 65536), joined([]byte{0, 1, 0, 0}, bytes.Repeat([]byte{'q'}, 65536))},
		{strings.Repeat("q", 1<<24), joined([]byte{1, 0, 0, 0}, bytes.Repeat([]byte{'q'}, 1<<24))},
	} {
		if b := Long(c.s); !bytes.Equal(b, c.want) {
			t.Errorf("Long of %d bytes: %d bytes", len(c.s), len(b))
		}
	}
}

// P2.1: the long text, and what is behind.
func TestGetLong(t *testing.T) {
	for _, c := range []struct {
		b    []byte
		s    string
		rest []byte
	}{
		{[]byte{0, 0, 0, 2, 97, 98}, "ab", nil},
		{[]byte{0, 0, 0, 2, 97, 98, 99}, "ab", []byte{99}},
		{[]byte{0, 0, 0, 0}, "", nil},
		{[]byte{0, 0, 0, 0, 5, 6}, "", []byte{5, 6}},
		{joined([]byte{0, 1, 0, 0}, bytes.Repeat([]byte{'q'}, 65537)), strings.Repeat("q", 65536), []byte{'q'}},
	} {
		if s, rest, e := GetLong(c.b); s != c.s || !bytes.Equal(rest, c.rest) || e != api.OK {
			t.Errorf("GetLong of %d bytes: %d bytes, %v, %d", len(c.b), len(s), rest, e)
		}
	}
}

// P2.1: each error of a long text: an int below 0 is told whatever is behind, but not ahead of an int that isn't whole.
func TestGetLongErrors(t *testing.T) {
	for _, c := range []struct {
		b []byte
		e api.Errno
	}{
		{nil, api.ErrShort},
		{[]byte{}, api.ErrShort},
		{[]byte{0, 0, 0}, api.ErrShort},
		{[]byte{255}, api.ErrShort},
		{[]byte{255, 255, 255}, api.ErrShort},
		{make([]byte, 3, 64), api.ErrShort},
		{[]byte{255, 255, 255, 255}, api.ErrForm},
		{[]byte{255, 255, 255, 254}, api.ErrForm},
		{[]byte{255, 255, 255, 253, 1, 2}, api.ErrForm},
		{[]byte{128, 0, 0, 0}, api.ErrForm},
		{[]byte{128, 0, 0, 0, 97, 98}, api.ErrForm},
		{[]byte{127, 255, 255, 255, 97}, api.ErrShort},
		{[]byte{0, 0, 0, 1}, api.ErrShort},
		{[]byte{0, 0, 0, 2, 97}, api.ErrShort},
		{[]byte{0, 1, 0, 0, 97}, api.ErrShort},
	} {
		if s, rest, e := GetLong(c.b); s != "" || len(rest) != 0 || e != c.e {
			t.Errorf("GetLong(%v) = %q, %v, %d, want %d", c.b, s, rest, e, c.e)
		}
	}
	whole := Long(strings.Repeat("q", 300))
	for n := range whole {
		if s, rest, e := GetLong(whole[:n]); s != "" || len(rest) != 0 || e != api.ErrShort {
			t.Errorf("GetLong of %d bytes out of %d: %q, %v, %d", n, len(whole), s, rest, e)
		}
	}
}

// P2.2: -1, -2, or how many bytes and these; bytes of a value that isn't Set are none.
func TestValue(t *testing.T) {
	for _, c := range []struct {
		v    api.Value
		want []byte
	}{
		{api.Value{}, []byte{255, 255, 255, 255}},
		{api.Value{Kind: api.Null}, []byte{255, 255, 255, 255}},
		{api.Value{Kind: api.Unset}, []byte{255, 255, 255, 254}},
		{api.Value{Kind: api.Null, Bytes: []byte{1, 2}}, []byte{255, 255, 255, 255}},
		{api.Value{Kind: api.Unset, Bytes: []byte{1, 2}}, []byte{255, 255, 255, 254}},
		{api.Value{Kind: api.Set}, []byte{0, 0, 0, 0}},
		{api.Value{Kind: api.Set, Bytes: []byte{}}, []byte{0, 0, 0, 0}},
		{api.Value{Kind: api.Set, Bytes: []byte{7, 255}}, []byte{0, 0, 0, 2, 7, 255}},
		{api.Value{Kind: api.Set, Bytes: make([]byte, 65536)}, joined([]byte{0, 1, 0, 0}, make([]byte, 65536))},
	} {
		if b, e := Value(c.v); !bytes.Equal(b, c.want) || e != api.OK {
			t.Errorf("Value of kind %d, %d bytes: %d bytes, %d", c.v.Kind, len(c.v.Bytes), len(b), e)
		}
	}
}

// P2.2: kinds that there aren't.
func TestValueWrongKind(t *testing.T) {
	for _, k := range []int{3, -1, -2, 4, 255, 256, 258, 1 << 32, 1<<32 + 2, math.MinInt, math.MaxInt} {
		for _, bytes := range [][]byte{nil, {1, 2}} {
			if b, e := Value(api.Value{Kind: k, Bytes: bytes}); len(b) != 0 || e != api.ErrArg {
				t.Errorf("Value of kind %d: %v, %d", k, b, e)
			}
		}
	}
}

// P2.2: the value, and what is behind.
func TestGetValue(t *testing.T) {
	for _, c := range []struct {
		b    []byte
		v    api.Value
		rest []byte
	}{
		{[]byte{255, 255, 255, 255}, api.Value{Kind: api.Null}, nil},
		{[]byte{255, 255, 255, 255, 7}, api.Value{Kind: api.Null}, []byte{7}},
		{[]byte{255, 255, 255, 254}, api.Value{Kind: api.Unset}, nil},
		{[]byte{255, 255, 255, 254, 7, 8}, api.Value{Kind: api.Unset}, []byte{7, 8}},
		{[]byte{0, 0, 0, 0}, api.Value{Kind: api.Set}, nil},
		{[]byte{0, 0, 0, 0, 7}, api.Value{Kind: api.Set}, []byte{7}},
		{[]byte{0, 0, 0, 2, 7, 255}, api.Value{Kind: api.Set, Bytes: []byte{7, 255}}, nil},
		{[]byte{0, 0, 0, 2, 7, 255, 1}, api.Value{Kind: api.Set, Bytes: []byte{7, 255}}, []byte{1}},
	} {
		if v, rest, e := GetValue(c.b); !sameValue(v, c.v) || !bytes.Equal(rest, c.rest) || e != api.OK {
			t.Errorf("GetValue(%v) = %v, %v, %d", c.b, v, rest, e)
		}
	}
}

// P2.2: each error of a value: an int below -2 is told whatever is behind, but not ahead of an int that isn't whole.
func TestGetValueErrors(t *testing.T) {
	for _, c := range []struct {
		b []byte
		e api.Errno
	}{
		{nil, api.ErrShort},
		{[]byte{}, api.ErrShort},
		{[]byte{0, 0, 0}, api.ErrShort},
		{[]byte{255, 255, 255}, api.ErrShort},
		{[]byte{255, 255, 253}, api.ErrShort},
		{make([]byte, 3, 64), api.ErrShort},
		{[]byte{255, 255, 255, 253}, api.ErrForm},
		{[]byte{255, 255, 255, 253, 1, 2, 3}, api.ErrForm},
		{[]byte{255, 255, 255, 252}, api.ErrForm},
		{[]byte{128, 0, 0, 0, 1}, api.ErrForm},
		{[]byte{127, 255, 255, 255, 1}, api.ErrShort},
		{[]byte{0, 0, 0, 1}, api.ErrShort},
		{[]byte{0, 0, 0, 2, 7}, api.ErrShort},
	} {
		v, rest, e := GetValue(c.b)
		if !sameValue(v, api.Value{}) || len(rest) != 0 || e != c.e {
			t.Errorf("GetValue(%v) = %v, %v, %d, want %d", c.b, v, rest, e, c.e)
		}
	}
	whole, _ := Value(api.Value{Kind: api.Set, Bytes: bytes.Repeat([]byte{7}, 300)})
	for n := range whole {
		if v, rest, e := GetValue(whole[:n]); !sameValue(v, api.Value{}) || len(rest) != 0 || e != api.ErrShort {
			t.Errorf("GetValue of %d bytes out of %d: %v, %v, %d", n, len(whole), v, rest, e)
		}
	}
}

// P2.3: how many bytes, these, and the port.
func TestInet(t *testing.T) {
	six := []byte{1, 2, 3, 4, 5, 6, 7, 8, 9, 10, 11, 12, 13, 14, 15, 16}
	for _, c := range []struct {
		a    api.Inet
		want []byte
	}{
		{api.Inet{Addr: []byte{10, 0, 0, 1}, Port: 9}, []byte{4, 10, 0, 0, 1, 0, 0, 0, 9}},
		{api.Inet{Addr: []byte{127, 0, 0, 255}}, []byte{4, 127, 0, 0, 255, 0, 0, 0, 0}},
		{api.Inet{Addr: []byte{1, 2, 3, 4}, Port: 0x01020304}, []byte{4, 1, 2, 3, 4, 1, 2, 3, 4}},
		{api.Inet{Addr: six, Port: 9042}, joined([]byte{16}, six, []byte{0, 0, 0x23, 0x52})},
		{api.Inet{Addr: six, Port: math.MaxUint32}, joined([]byte{16}, six, []byte{255, 255, 255, 255})},
	} {
		if b, e := Inet(c.a); !bytes.Equal(b, c.want) || e != api.OK {
			t.Errorf("Inet(%v) = %v, %d", c.a, b, e)
		}
	}
}

// P2.3: addresses of any other number of bytes, those whose number's lowest byte would be one too.
func TestInetWrongLength(t *testing.T) {
	lengths := []int{256 + 4, 256 + 16, 65536 + 4}
	for n := range 64 {
		if n != 4 && n != 16 {
			lengths = append(lengths, n)
		}
	}
	for _, n := range lengths {
		if b, e := Inet(api.Inet{Addr: make([]byte, n, n+16), Port: 9}); len(b) != 0 || e != api.ErrArg {
			t.Errorf("Inet of %d bytes: %v, %d", n, b, e)
		}
	}
	if b, e := Inet(api.Inet{}); len(b) != 0 || e != api.ErrArg {
		t.Error("Inet of nothing:", b, e)
	}
}

// P2.3: the address, and what is behind.
func TestGetInet(t *testing.T) {
	a, rest, e := GetInet([]byte{4, 10, 0, 0, 1, 0, 0, 0, 9, 77})
	if !bytes.Equal(a.Addr, []byte{10, 0, 0, 1}) || a.Port != 9 || !bytes.Equal(rest, []byte{77}) || e != api.OK {
		t.Error(a, rest, e)
	}
	six := bytes.Repeat([]byte{254, 1}, 8)
	a, rest, e = GetInet(joined([]byte{16}, six, []byte{255, 254, 253, 252}))
	if !bytes.Equal(a.Addr, six) || a.Port != 0xfffefdfc || len(rest) != 0 || e != api.OK {
		t.Error(a, rest, e)
	}
}

// P2.3: first bytes that no address has are told even if nothing is behind.
func TestGetInetForm(t *testing.T) {
	for n := range 256 {
		if n == 4 || n == 16 {
			continue
		}
		for _, behind := range [][]byte{nil, {1}, make([]byte, 300)} {
			a, rest, e := GetInet(joined([]byte{byte(n)}, behind))
			if len(a.Addr) != 0 || a.Port != 0 || len(rest) != 0 || e != api.ErrForm {
				t.Errorf("GetInet of %d, %d behind: %v, %v, %d", n, len(behind), a, rest, e)
			}
		}
	}
}

// P2.3: bytes that end at each place ahead of the port's end.
func TestGetInetShort(t *testing.T) {
	for _, n := range []int{4, 16} {
		whole := joined([]byte{byte(n)}, bytes.Repeat([]byte{7}, n+4))
		if a, rest, e := GetInet(whole); len(a.Addr) != n || a.Port != 0x07070707 || len(rest) != 0 || e != api.OK {
			t.Error(a, rest, e)
		}
		for have := range whole {
			a, rest, e := GetInet(whole[:have])
			if len(a.Addr) != 0 || a.Port != 0 || len(rest) != 0 || e != api.ErrShort {
				t.Errorf("GetInet of %d bytes out of %d: %v, %v, %d", have, len(whole), a, rest, e)
			}
		}
	}
	if _, _, e := GetInet(nil); e != api.ErrShort {
		t.Error(e)
	}
}

// P2.3: all consistencies, and numbers that are none.
func TestConsistency(t *testing.T) {
	for c := range uint16(11) {
		if b, e := Consistency(c); !bytes.Equal(b, []byte{0, byte(c)}) || e != api.OK {
			t.Errorf("Consistency(%d) = %v, %d", c, b, e)
		}
	}
	for c := 11; c <= math.MaxUint16; c++ {
		if b, e := Consistency(uint16(c)); len(b) != 0 || e != api.ErrArg {
			t.Errorf("Consistency(%d) = %v, %d", c, b, e)
		}
	}
}

// P2.3: all shorts, those that are too early too.
func TestGetConsistency(t *testing.T) {
	for c := 0; c <= math.MaxUint16; c++ {
		got, rest, e := GetConsistency([]byte{byte(c >> 8), byte(c), 77})
		if c <= 10 && (int(got) != c || !bytes.Equal(rest, []byte{77}) || e != api.OK) {
			t.Errorf("GetConsistency of %d: %d, %v, %d", c, got, rest, e)
		}
		if c > 10 && (got != 0 || len(rest) != 0 || e != api.ErrForm) {
			t.Errorf("GetConsistency of %d: %d, %v, %d", c, got, rest, e)
		}
	}
	for _, b := range [][]byte{nil, {}, {0}, {1}, {255}, make([]byte, 1, 64)} {
		if got, rest, e := GetConsistency(b); got != 0 || len(rest) != 0 || e != api.ErrShort {
			t.Errorf("GetConsistency(%v) = %d, %v, %d", b, got, rest, e)
		}
	}
	if got, rest, e := GetConsistency([]byte{0, 10}); got != 10 || len(rest) != 0 || e != api.OK {
		t.Error(got, rest, e)
	}
}

// P2.1, P2.2, P2.3: what is behind is b itself, and b stays as it was.
func TestRestOfItself(t *testing.T) {
	rests := map[string]func(b []byte) []byte{
		"text":        func(b []byte) []byte { _, rest, _ := GetText(b); return rest },
		"long":        func(b []byte) []byte { _, rest, _ := GetLong(b); return rest },
		"value":       func(b []byte) []byte { _, rest, _ := GetValue(b); return rest },
		"inet":        func(b []byte) []byte { _, rest, _ := GetInet(b); return rest },
		"consistency": func(b []byte) []byte { _, rest, _ := GetConsistency(b); return rest },
	}
	for _, c := range []struct {
		what string
		b    []byte
	}{
		{"text", []byte{0, 1, 97}},
		{"long", []byte{0, 0, 0, 1, 97}},
		{"value", []byte{0, 0, 0, 1, 97}},
		{"value", []byte{255, 255, 255, 255}},
		{"value", []byte{255, 255, 255, 254}},
		{"inet", []byte{4, 1, 2, 3, 4, 0, 0, 0, 9}},
		{"consistency", []byte{0, 10}},
	} {
		b := joined(c.b, []byte{70, 71})
		was := bytes.Clone(b)
		rest := rests[c.what](b)
		if !bytes.Equal(b, was) {
			t.Error(c.what, "changed:", b)
		}
		if len(rest) != 2 || &rest[0] != &b[len(c.b)] {
			t.Error(c.what, "not of b itself:", rest)
		}
	}
}

// P2.1, P2.2, P2.3: what is got is new memory: it doesn't follow b, nor b it.
func TestGotIsNewMemory(t *testing.T) {
	b := []byte{0, 0, 0, 2, 7, 8, 9}
	v, _, _ := GetValue(b)
	b[4] = 99
	v.Bytes[1] = 98
	v.Bytes = append(v.Bytes, 97)
	if v.Bytes[0] != 7 || !bytes.Equal(b, []byte{0, 0, 0, 2, 99, 8, 9}) {
		t.Error("value:", v, b)
	}
	b = []byte{4, 1, 2, 3, 4, 0, 0, 0, 9}
	a, _, _ := GetInet(b)
	b[1] = 99
	a.Addr[1] = 98
	a.Addr = append(a.Addr, 97)
	if a.Addr[0] != 1 || !bytes.Equal(b, []byte{4, 99, 2, 3, 4, 0, 0, 0, 9}) {
		t.Error("address:", a, b)
	}
	b = []byte{0, 1, 97}
	s, _, _ := GetText(b)
	b[2] = 98
	if s != "a" {
		t.Error("text:", s)
	}
	b = []byte{0, 0, 0, 1, 97}
	s, _, _ = GetLong(b)
	b[4] = 98
	if s != "a" {
		t.Error("long text:", s)
	}
}

// P2.2, P2.3: what is put is new memory too.
func TestPutIsNewMemory(t *testing.T) {
	in := []byte{1, 2, 3, 4}
	b, _ := Value(api.Value{Kind: api.Set, Bytes: in})
	c, _ := Inet(api.Inet{Addr: in, Port: 9})
	b[4], c[1] = 99, 98
	if !bytes.Equal(in, []byte{1, 2, 3, 4}) {
		t.Error("changed:", in)
	}
	in[1] = 77
	if b[5] != 2 || c[2] != 2 {
		t.Error("kept:", b, c)
	}
}

// P2.4: texts that are put are got, with what is behind.
func TestTextIsGot(t *testing.T) {
	for _, s := range append(texts(), strings.Repeat("q", 65535)) {
		for _, behind := range tails {
			b, _ := Text(s)
			if got, rest, e := GetText(joined(b, behind)); got != s || !bytes.Equal(rest, behind) || e != api.OK {
				t.Errorf("Text of %d bytes: %d bytes, %v, %d", len(s), len(got), rest, e)
			}
		}
	}
	for _, s := range append(texts(), strings.Repeat("q", 65536)) {
		for _, behind := range tails {
			if got, rest, e := GetLong(joined(Long(s), behind)); got != s || !bytes.Equal(rest, behind) || e != api.OK {
				t.Errorf("Long of %d bytes: %d bytes, %v, %d", len(s), len(got), rest, e)
			}
		}
	}
}

// P2.4: values that are put are got, with what is behind.
func TestValueIsGot(t *testing.T) {
	for _, v := range values() {
		for _, behind := range tails {
			b, _ := Value(v)
			if got, rest, e := GetValue(joined(b, behind)); !sameValue(got, v) || !bytes.Equal(rest, behind) || e != api.OK {
				t.Errorf("Value of kind %d, %d bytes: %v, %d", v.Kind, len(v.Bytes), rest, e)
			}
		}
	}
}

// P2.4: addresses and consistencies that are put are got, with what is behind.
func TestInetIsGot(t *testing.T) {
	for _, behind := range tails {
		for _, port := range []uint32{0, 1, 9042, 1 << 16, 1 << 31, math.MaxUint32} {
			for _, addr := range [][]byte{{0, 0, 0, 0}, {10, 200, 3, 255}, bytes.Repeat([]byte{0, 255, 4, 16}, 4)} {
				b, _ := Inet(api.Inet{Addr: addr, Port: port})
				a, rest, e := GetInet(joined(b, behind))
				if !bytes.Equal(a.Addr, addr) || a.Port != port || !bytes.Equal(rest, behind) || e != api.OK {
					t.Errorf("Inet of %v, %d: %v, %v, %d", addr, port, a, rest, e)
				}
			}
		}
		for c := range uint16(11) {
			b, _ := Consistency(c)
			if got, rest, e := GetConsistency(joined(b, behind)); got != c || !bytes.Equal(rest, behind) || e != api.OK {
				t.Errorf("Consistency(%d): %d, %v, %d", c, got, rest, e)
			}
		}
	}
}

// P2.4: things of all kinds, one behind the other, are got in their order.
func TestManyAreGot(t *testing.T) {
	text, _ := Text("ab")
	null, _ := Value(api.Value{})
	inet, _ := Inet(api.Inet{Addr: []byte{1, 2, 3, 4}, Port: 5})
	level, _ := Consistency(api.Quorum)
	s, rest, e1 := GetText(joined(text, null, inet, level, Long("cd")))
	v, rest, e2 := GetValue(rest)
	a, rest, e3 := GetInet(rest)
	c, rest, e4 := GetConsistency(rest)
	l, rest, e5 := GetLong(rest)
	if s != "ab" || v.Kind != api.Null || a.Port != 5 || c != api.Quorum || l != "cd" || len(rest) != 0 {
		t.Error(s, v, a, c, l, rest)
	}
	if e1 != api.OK || e2 != api.OK || e3 != api.OK || e4 != api.OK || e5 != api.OK {
		t.Error(e1, e2, e3, e4, e5)
	}
}
