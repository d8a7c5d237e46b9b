package routing

import (
	"bytes"
	"slices"
	"strings"
	"testing"

	"signalbox/api"
)

// of are parts of texts.
func of(texts ...string) [][]byte {
	l := [][]byte{}
	for _, s := range texts {
		l = append(l, []byte(s))
	}
	return l
}

// deep are parts in memory of their own.
func deep(parts [][]byte) [][]byte {
	var l [][]byte
	for _, p := range parts {
		l = append(l, slices.Clone(p))
	}
	return l
}

// same tells whether two lists have the same parts; no bytes and nil are one.
func same(a, b [][]byte) bool {
	return slices.EqualFunc(a, b, bytes.Equal)
}

// brief is what is told of parts in a test that fails.
func brief(parts [][]byte) string {
	var l []string
	for _, p := range parts {
		l = append(l, short(p))
	}
	return "[" + strings.Join(l, " ") + "]"
}

// short is what is told of bytes, of which there may be very many.
func short(b []byte) string {
	if len(b) > 20 {
		b = append(slices.Clone(b[:20]), "..."...)
	}
	return string(b)
}

// some are so many bytes, in which each place differs from those next to it.
func some(n int) string {
	b := make([]byte, n)
	for i := range b {
		b[i] = byte(37*i + 11)
	}
	return string(b)
}

// lists are all lists of so many parts that are among these.
func lists(n int, among []string) [][]string {
	if n == 0 {
		return [][]string{nil}
	}
	var all [][]string
	for _, head := range lists(n-1, among) {
		for _, s := range among {
			all = append(all, append(slices.Clone(head), s))
		}
	}
	return all
}

// tricky are parts that look like pieces of keys.
var tricky = []string{"", "\x00", "\x01", "a", "\x00\x00", "\x00\x01", "\x00\x00\x00", "a\x00", "\x00a", "\x00\x01a\x00", "a\x00\x00\x01b", "ab"}

// P12.4: parts of the key of several are these, whatever they are made of.
func TestKeysComeBack(t *testing.T) {
	for n := 2; n <= 4; n++ {
		for _, texts := range lists(n, tricky) {
			comesBack(t, of(texts...))
		}
	}
}

// comesBack fails unless the parts of the key of several are these.
func comesBack(t *testing.T, parts [][]byte) {
	t.Helper()
	key, e := Key(parts)
	if e != api.OK {
		t.Fatalf("Key(%q): %v", brief(parts), e)
	}
	back, e := Parts(key)
	if e != api.OK || !same(back, parts) {
		t.Fatalf("Parts(Key(%q)) = %q, %v", brief(parts), brief(back), e)
	}
}

// P12.4: of very many parts, and of the longest ones.
func TestGreatKeysComeBack(t *testing.T) {
	for _, n := range []int{5, 255, 256, 257, 70000} {
		var parts [][]byte
		for i := range n {
			parts = append(parts, []byte(some(i%7)))
		}
		comesBack(t, parts)
	}
	for _, n := range []int{127, 128, 255, 256, 257, 32767, 32768, 65534, 65535} {
		comesBack(t, of(some(n), "a"))
		comesBack(t, of("a", some(n)))
		comesBack(t, of(some(n), "", some(n)))
	}
}

// P12.4: of several, other parts have another key.
func TestOtherPartsHaveOtherKeys(t *testing.T) {
	seen := map[string]string{}
	for n := 2; n <= 4; n++ {
		for _, texts := range lists(n, tricky) {
			parts := of(texts...)
			key, e := Key(parts)
			if e != api.OK {
				t.Fatalf("Key(%q): %v", texts, e)
			}
			if other, there := seen[string(key)]; there {
				t.Fatalf("%q and %s have the key %q", texts, other, key)
			}
			seen[string(key)] = brief(parts)
		}
	}
}

// P12.4: of one, another part has another key.
func TestAnotherPartHasAnotherKey(t *testing.T) {
	seen := map[string]bool{}
	for _, s := range tricky {
		key, e := Key(of(s))
		if e != api.OK || seen[string(key)] {
			t.Errorf("Key(%q) = %q, %v", s, key, e)
		}
		seen[string(key)] = true
	}
}

// P12.4: bytes that have parts are their key, if these are several.
func TestPartsGoBack(t *testing.T) {
	several := 0
	for _, b := range allBytes(9, []byte{0, 1, 2}) {
		parts, e := Parts(b)
		if e != api.OK || len(parts) < 2 {
			continue
		}
		several++
		if key, e := Key(parts); e != api.OK || !bytes.Equal(key, b) {
			t.Fatalf("Key(Parts(%v)) = %v, %v", b, key, e)
		}
	}
	if several == 0 {
		t.Error("none has several parts")
	}
}

// allBytes are all bytes up to a length that are made of these.
func allBytes(most int, among []byte) [][]byte {
	all := [][]byte{nil}
	longest := all
	for range most {
		var longer [][]byte
		for _, b := range longest {
			for _, x := range among {
				longer = append(longer, append(slices.Clone(b), x))
			}
		}
		all = append(all, longer...)
		longest = longer
	}
	return all
}

// Nothing is kept from call to call.
func TestAgain(t *testing.T) {
	first, _ := Key(of("a", "b"))
	token, _ := Token(of("a", "b"))
	l, _ := Parts(first)
	Key(of("c", some(300)))
	Key(nil)
	Token(of("", some(65536)))
	Parts([]byte{0, 0, 0, 1})
	Pick([]uint16{9}, nil)
	if again, e := Key(of("a", "b")); e != api.OK || !bytes.Equal(again, first) {
		t.Error(first, again, e)
	}
	if again, e := Token(of("a", "b")); e != api.OK || again != token {
		t.Error(token, again, e)
	}
	if again, e := Parts(first); e != api.OK || !same(again, l) {
		t.Error(l, again, e)
	}
}
