package routing

import (
	"bytes"
	"reflect"
	"testing"

	"signalbox/api"
)

// set is a value of a text.
func set(s string) api.Value {
	return api.Value{Kind: api.Set, Bytes: []byte(s)}
}

// mixed are values of which some may be picked.
func mixed() []api.Value {
	return []api.Value{set("a"), {Kind: api.Null}, set("bc"), {Kind: api.Unset}, set(""), {Kind: api.Set}, set("\x00\xff")}
}

// P12.3: places in any order, also the same one twice; values that aren't asked for may be of any kind.
func TestPick(t *testing.T) {
	for _, c := range []struct {
		places []uint16
		want   [][]byte
	}{
		{nil, nil},
		{[]uint16{}, nil},
		{[]uint16{0}, of("a")},
		{[]uint16{2}, of("bc")},
		{[]uint16{4}, of("")},
		{[]uint16{5}, of("")},
		{[]uint16{6}, of("\x00\xff")},
		{[]uint16{0, 2, 6}, of("a", "bc", "\x00\xff")},
		{[]uint16{6, 2, 0}, of("\x00\xff", "bc", "a")},
		{[]uint16{2, 0, 6}, of("bc", "a", "\x00\xff")},
		{[]uint16{0, 0}, of("a", "a")},
		{[]uint16{2, 0, 2}, of("bc", "a", "bc")},
		{[]uint16{4, 0, 5}, of("", "a", "")},
	} {
		if l, e := Pick(c.places, mixed()); e != api.OK || !same(l, c.want) {
			t.Errorf("Pick(%v) = %q, %v, want %q", c.places, l, e, c.want)
		}
	}
}

// P12.3: of no places there are no parts, whatever the values are.
func TestPickNoPlaces(t *testing.T) {
	for _, values := range [][]api.Value{nil, {}, {{Kind: api.Null}}, {{Kind: api.Unset}}, {set("a")}} {
		for _, places := range [][]uint16{nil, {}} {
			if l, e := Pick(places, values); e != api.OK || len(l) != 0 {
				t.Errorf("Pick(%v, %v) = %q, %v", places, values, l, e)
			}
		}
	}
}

// P12.3: a place that may not be is wrong wherever it stands.
func TestPickWrongPlaces(t *testing.T) {
	for _, wrong := range []uint16{1, 3, 7, 8, 255, 256, 32767, 32768, 65535} {
		for _, places := range [][]uint16{{wrong}, {wrong, 0}, {0, wrong}, {0, wrong, 2}, {0, 2, wrong}, {wrong, wrong}} {
			if l, e := Pick(places, mixed()); e != api.ErrArg || len(l) != 0 {
				t.Errorf("Pick(%v) = %q, %v", places, l, e)
			}
		}
	}
}

// P12.3: a place has to be below the number of values, however many there are.
func TestPickPlaceIsBelow(t *testing.T) {
	values := make([]api.Value, 65536)
	for i := range values {
		values[i] = set(some(i % 5))
	}
	for _, n := range []int{0, 1, 2, 255, 256, 257, 65535} {
		for _, place := range []int{n, n + 1} {
			if place > 65535 {
				continue
			}
			if l, e := Pick([]uint16{uint16(place)}, values[:n]); e != api.ErrArg || len(l) != 0 {
				t.Errorf("%d of %d: %q, %v", place, n, l, e)
			}
		}
		if n == 0 {
			continue
		}
		if l, e := Pick([]uint16{uint16(n - 1)}, values[:n]); e != api.OK || !same(l, of(some((n-1)%5))) {
			t.Errorf("%d of %d: %q, %v", n-1, n, l, e)
		}
	}
	if l, e := Pick([]uint16{65535}, values); e != api.OK || !same(l, of(some(65535%5))) {
		t.Errorf("the last: %q, %v", l, e)
	}
}

// P12.3: only a value that is Set has Bytes to pick, whatever stands in the others.
func TestPickKinds(t *testing.T) {
	for _, kind := range []int{api.Null, api.Unset, -2, -1, 3, 4, 255, 256, 258, 1 << 40} {
		for _, b := range [][]byte{nil, {}, []byte("a")} {
			values := []api.Value{set("x"), {Kind: kind, Bytes: b}}
			for _, places := range [][]uint16{{1}, {0, 1}, {1, 0}} {
				if l, e := Pick(places, values); e != api.ErrArg || len(l) != 0 {
					t.Errorf("Pick(%v) with the kind %d = %q, %v", places, kind, l, e)
				}
			}
			if l, e := Pick([]uint16{0}, values); e != api.OK || !same(l, of("x")) {
				t.Errorf("beside the kind %d: %q, %v", kind, l, e)
			}
		}
	}
}

// P12.3: bytes of any number may be picked, also those that no key of several has.
func TestPickLong(t *testing.T) {
	for _, n := range []int{1, 65535, 65536, 200000} {
		if l, e := Pick([]uint16{0}, []api.Value{set(some(n))}); e != api.OK || !same(l, of(some(n))) {
			t.Errorf("%d bytes: %v", n, e)
		}
	}
}

// P12.3: places and values are not changed.
func TestPickChangesNothing(t *testing.T) {
	for _, places := range [][]uint16{{0, 2, 0, 6, 4}, {2, 1, 0}, {6, 9}} {
		values := mixed()
		asked := append([]uint16{}, places...)
		Pick(asked, values)
		if !reflect.DeepEqual(values, mixed()) || !reflect.DeepEqual(asked, places) {
			t.Errorf("%v: %v, %v", places, asked, values)
		}
	}
}

// P12.3: what is told is new memory: it shares none with the values, nor do two parts of the same place.
func TestPickIsNewMemory(t *testing.T) {
	values := mixed()
	places := []uint16{2, 0, 2, 6}
	l, _ := Pick(places, values)
	want := of("bc", "a", "bc", "\x00\xff")
	for i := range l {
		for j := range l[i] {
			l[i][j] ^= 255
			want[i][j] ^= 255
		}
		longer := append(l[i], "xyz"...)
		if len(longer) != len(want[i])+3 || !same(l, want) || !reflect.DeepEqual(values, mixed()) {
			t.Errorf("part %d: %q, %v", i, l, values)
		}
	}
	l, _ = Pick(places, values)
	for _, v := range values {
		clear(v.Bytes)
	}
	clear(places)
	if !same(l, of("bc", "a", "bc", "\x00\xff")) {
		t.Errorf("%q", l)
	}
}

// P12.3: a part doesn't reach into what stands behind a value's Bytes.
func TestPickEndsThere(t *testing.T) {
	room := []byte("abcdef")
	l, _ := Pick([]uint16{0}, []api.Value{{Kind: api.Set, Bytes: room[:3]}})
	longer := append(l[0], "xyz"...)
	if !bytes.Equal(room, []byte("abcdef")) {
		t.Errorf("%q, %q", room, longer)
	}
}

// P12.1, P12.3: what is picked makes a key, in the order of the places.
func TestKeyOfWhatWasPicked(t *testing.T) {
	for _, c := range []struct {
		places []uint16
		key    string
	}{
		{[]uint16{0}, "a"},
		{[]uint16{4}, ""},
		{[]uint16{0, 2}, "\x00\x01a\x00\x00\x02bc\x00"},
		{[]uint16{2, 0}, "\x00\x02bc\x00\x00\x01a\x00"},
		{[]uint16{5, 6}, "\x00\x00\x00\x00\x02\x00\xff\x00"},
	} {
		l, _ := Pick(c.places, mixed())
		if key, e := Key(l); e != api.OK || string(key) != c.key {
			t.Errorf("%v: %q, %v", c.places, key, e)
		}
	}
	l, _ := Pick(nil, mixed())
	if _, e := Key(l); e != api.ErrArg {
		t.Error(e)
	}
}
