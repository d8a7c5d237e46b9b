package maps

import (
	"bytes"
	"slices"
	"strings"
	"testing"

	"signalbox/api"
)

// tails are what may stand behind.
var tails = [][]byte{nil, {0}, {255}, {0, 1, 0, 1, 97}}

// fits and tooLong are the longest text that a short can tell, and one byte more.
var (
	fits    = strings.Repeat("q", 65535)
	tooLong = strings.Repeat("q", 65536)
)

// kindless is a value whose kind there isn't.
var kindless = api.Value{Kind: 3}

// joined are bytes one behind the other, in new memory.
func joined(parts ...[]byte) []byte {
	return bytes.Join(parts, nil)
}

// set is a value that has these bytes.
func set(b ...byte) api.Value {
	return api.Value{Kind: api.Set, Bytes: b}
}

// many is a list of n times one item.
func many[T any](item T, n int) []T {
	return slices.Repeat([]T{item}, n)
}

// The items of two lists are held against each other one by one; nil and empty lists are alike.
func sameText(a, b string) bool     { return a == b }
func samePair(a, b api.Pair) bool   { return a == b }
func sameMulti(a, b api.Multi) bool { return a.Key == b.Key && slices.Equal(a.Values, b.Values) }
func sameEntry(a, b api.Entry) bool {
	return a.Key == b.Key && a.Value.Kind == b.Value.Kind && bytes.Equal(a.Value.Bytes, b.Value.Bytes)
}

// isPut fails unless putting these items makes just these bytes.
func isPut[T any](t *testing.T, put func([]T) ([]byte, api.Errno), l []T, want []byte) {
	t.Helper()
	if b, e := put(l); !bytes.Equal(b, want) || e != api.OK {
		t.Errorf("%d items: %d bytes, %d, want %d bytes", len(l), len(b), e, len(want))
	}
}

// isNotPut fails unless putting these items is this error, and nothing else.
func isNotPut[T any](t *testing.T, put func([]T) ([]byte, api.Errno), l []T, want api.Errno) {
	t.Helper()
	if b, e := put(l); len(b) != 0 || e != want {
		t.Errorf("%d items: %d bytes, %d, want %d", len(l), len(b), e, want)
	}
}

// isGot fails unless these bytes are just these items, whatever is behind; what is behind is of the bytes themselves.
func isGot[T any](t *testing.T, get func([]byte) ([]T, []byte, api.Errno), b []byte, want []T, same func(a, b T) bool) {
	t.Helper()
	for _, tail := range tails {
		whole := joined(b, tail)
		was := bytes.Clone(whole)
		l, rest, e := get(whole)
		if !slices.EqualFunc(l, want, same) || !bytes.Equal(rest, tail) || e != api.OK {
			t.Errorf("%d bytes: %d items, %d bytes behind, %d, want %d items, %v", len(whole), len(l), len(rest), e, len(want), tail)
		}
		if len(rest) > 0 && &rest[0] != &whole[len(b)] {
			t.Error("what is behind is not of the bytes themselves")
		}
		if !bytes.Equal(whole, was) {
			t.Error("the bytes are changed")
		}
	}
}

// isNotGot fails unless these bytes are this error, and nothing else.
func isNotGot[T any](t *testing.T, get func([]byte) ([]T, []byte, api.Errno), b []byte, want api.Errno) {
	t.Helper()
	if l, rest, e := get(b); len(l) != 0 || len(rest) != 0 || e != want {
		t.Errorf("%v: %d items, %d bytes behind, %d, want %d", b[:min(len(b), 40)], len(l), len(rest), e, want)
	}
}

// isShort fails unless these bytes are ErrShort wherever they are cut off; room behind their length doesn't count.
func isShort[T any](t *testing.T, get func([]byte) ([]T, []byte, api.Errno), whole []byte) {
	t.Helper()
	for n := range whole {
		isNotGot(t, get, whole[:n], api.ErrShort)
	}
	if _, rest, e := get(whole); len(rest) != 0 || e != api.OK {
		t.Errorf("the whole: %d bytes behind, %d", len(rest), e)
	}
}

// P3.1: how many, and each text.
func TestTexts(t *testing.T) {
	isPut(t, Texts, nil, []byte{0, 0})
	isPut(t, Texts, []string{}, []byte{0, 0})
	isPut(t, Texts, []string{""}, []byte{0, 1, 0, 0})
	isPut(t, Texts, []string{"a", "b"}, []byte{0, 2, 0, 1, 97, 0, 1, 98})
	isPut(t, Texts, []string{"b", "", "a\xff"}, []byte{0, 3, 0, 1, 98, 0, 0, 0, 2, 97, 255})
	isPut(t, Texts, []string{"a", "b", "a"}, []byte{0, 3, 0, 1, 97, 0, 1, 98, 0, 1, 97})
	isPut(t, Texts, []string{fits}, joined([]byte{0, 1, 255, 255}, []byte(fits)))
	isPut(t, Texts, many("", 255), joined([]byte{0, 255}, make([]byte, 2*255)))
	isPut(t, Texts, many("", 256), joined([]byte{1, 0}, make([]byte, 2*256)))
	isPut(t, Texts, many("", 65535), joined([]byte{255, 255}, make([]byte, 2*65535)))
}

// P3.1: too many texts, or one that is too long, wherever it stands.
func TestTextsErrors(t *testing.T) {
	isNotPut(t, Texts, many("", 65536), api.ErrLong)
	isNotPut(t, Texts, many("a", 65537), api.ErrLong)
	isNotPut(t, Texts, many("", 1<<17), api.ErrLong)
	isNotPut(t, Texts, []string{tooLong}, api.ErrLong)
	isNotPut(t, Texts, []string{tooLong, "a"}, api.ErrLong)
	isNotPut(t, Texts, []string{"a", "b", tooLong}, api.ErrLong)
	isNotPut(t, Texts, append(many("", 65534), tooLong), api.ErrLong)
}

// P3.1: how many, and of each its key ahead of its text.
func TestPairs(t *testing.T) {
	isPut(t, Pairs, nil, []byte{0, 0})
	isPut(t, Pairs, []api.Pair{}, []byte{0, 0})
	isPut(t, Pairs, []api.Pair{{}}, []byte{0, 1, 0, 0, 0, 0})
	isPut(t, Pairs, []api.Pair{{Key: "k", Value: "v"}}, []byte{0, 1, 0, 1, 107, 0, 1, 118})
	isPut(t, Pairs, []api.Pair{{Key: "k"}, {Value: "v"}}, []byte{0, 2, 0, 1, 107, 0, 0, 0, 0, 0, 1, 118})
	isPut(t, Pairs, many(api.Pair{}, 65535), joined([]byte{255, 255}, make([]byte, 4*65535)))
	isPut(t, Pairs, []api.Pair{{Key: fits, Value: fits}},
		joined([]byte{0, 1, 255, 255}, []byte(fits), []byte{255, 255}, []byte(fits)))
}

// P3.1: pairs stay in their order, and a key that is there twice stays so.
func TestPairsStay(t *testing.T) {
	l := []api.Pair{{Key: "b", Value: "1"}, {Key: "a", Value: "2"}, {Key: "b", Value: "3"}, {Key: "b", Value: "1"}}
	isPut(t, Pairs, l, []byte{0, 4, 0, 1, 98, 0, 1, 49, 0, 1, 97, 0, 1, 50, 0, 1, 98, 0, 1, 51, 0, 1, 98, 0, 1, 49})
}

// P3.1: too many pairs, or a part that is too long, wherever it stands.
func TestPairsErrors(t *testing.T) {
	isNotPut(t, Pairs, many(api.Pair{}, 65536), api.ErrLong)
	isNotPut(t, Pairs, []api.Pair{{Key: tooLong}}, api.ErrLong)
	isNotPut(t, Pairs, []api.Pair{{Value: tooLong}}, api.ErrLong)
	isNotPut(t, Pairs, []api.Pair{{Key: tooLong, Value: tooLong}}, api.ErrLong)
	isNotPut(t, Pairs, []api.Pair{{}, {Key: "k", Value: tooLong}}, api.ErrLong)
	isNotPut(t, Pairs, []api.Pair{{Key: "k", Value: tooLong}, {}}, api.ErrLong)
}

// P3.1: how many, and of each its key ahead of its texts, which have a short of their own.
func TestMultis(t *testing.T) {
	isPut(t, Multis, nil, []byte{0, 0})
	isPut(t, Multis, []api.Multi{}, []byte{0, 0})
	isPut(t, Multis, []api.Multi{{}}, []byte{0, 1, 0, 0, 0, 0})
	isPut(t, Multis, []api.Multi{{Key: "k", Values: []string{}}}, []byte{0, 1, 0, 1, 107, 0, 0})
	isPut(t, Multis, []api.Multi{{Key: "k", Values: []string{"x", "y"}}},
		[]byte{0, 1, 0, 1, 107, 0, 2, 0, 1, 120, 0, 1, 121})
	isPut(t, Multis, []api.Multi{{Key: "k", Values: []string{"y", "", "y"}}, {Key: "j"}, {Key: "k", Values: []string{"x"}}},
		[]byte{0, 3, 0, 1, 107, 0, 3, 0, 1, 121, 0, 0, 0, 1, 121, 0, 1, 106, 0, 0, 0, 1, 107, 0, 1, 0, 1, 120})
	isPut(t, Multis, many(api.Multi{}, 65535), joined([]byte{255, 255}, make([]byte, 4*65535)))
	isPut(t, Multis, []api.Multi{{Values: many("", 65535)}}, joined([]byte{0, 1, 0, 0, 255, 255}, make([]byte, 2*65535)))
	isPut(t, Multis, []api.Multi{{Key: fits, Values: []string{fits}}},
		joined([]byte{0, 1, 255, 255}, []byte(fits), []byte{0, 1, 255, 255}, []byte(fits)))
}

// P3.1: too many keys, too many texts of one key, or a text that is too long, wherever it stands.
func TestMultisErrors(t *testing.T) {
	isNotPut(t, Multis, many(api.Multi{}, 65536), api.ErrLong)
	isNotPut(t, Multis, []api.Multi{{Values: many("", 65536)}}, api.ErrLong)
	isNotPut(t, Multis, []api.Multi{{Key: tooLong}}, api.ErrLong)
	isNotPut(t, Multis, []api.Multi{{Values: []string{"a", tooLong}}}, api.ErrLong)
	isNotPut(t, Multis, []api.Multi{{}, {Key: "k", Values: []string{tooLong, "a"}}}, api.ErrLong)
	isNotPut(t, Multis, []api.Multi{{Key: tooLong, Values: many("", 65536)}, {}}, api.ErrLong)
}

// P3.1: how many, and of each its key ahead of its value; bytes of a value that isn't Set are none.
func TestEntries(t *testing.T) {
	isPut(t, Entries, nil, []byte{0, 0})
	isPut(t, Entries, []api.Entry{}, []byte{0, 0})
	isPut(t, Entries, []api.Entry{{}}, []byte{0, 1, 0, 0, 255, 255, 255, 255})
	isPut(t, Entries, []api.Entry{{Key: "k", Value: set(7, 8)}}, []byte{0, 1, 0, 1, 107, 0, 0, 0, 2, 7, 8})
	isPut(t, Entries, []api.Entry{{Key: "k", Value: set()}, {Key: "j", Value: api.Value{Kind: api.Unset}}, {Key: "k"}},
		[]byte{0, 3, 0, 1, 107, 0, 0, 0, 0, 0, 1, 106, 255, 255, 255, 254, 0, 1, 107, 255, 255, 255, 255})
	isPut(t, Entries, []api.Entry{{Key: "k", Value: api.Value{Bytes: []byte{7}}}}, []byte{0, 1, 0, 1, 107, 255, 255, 255, 255})
	isPut(t, Entries, many(api.Entry{Value: set()}, 65535), joined([]byte{255, 255}, make([]byte, 6*65535)))
	isPut(t, Entries, []api.Entry{{Key: fits, Value: set(make([]byte, 65536)...)}},
		joined([]byte{0, 1, 255, 255}, []byte(fits), []byte{0, 1, 0, 0}, make([]byte, 65536)))
}

// P3.1: kinds that there aren't; of two wrong parts the key's error, of two wrong items the first one's, and ahead of all that there are too many.
func TestEntriesErrors(t *testing.T) {
	for _, kind := range []int{3, -1, -2, 256, 258} {
		isNotPut(t, Entries, []api.Entry{{Key: "k", Value: api.Value{Kind: kind}}}, api.ErrArg)
	}
	longKey, wrongKind := api.Entry{Key: tooLong}, api.Entry{Key: "k", Value: kindless}
	bothWrong := api.Entry{Key: tooLong, Value: kindless}
	isNotPut(t, Entries, []api.Entry{longKey}, api.ErrLong)
	isNotPut(t, Entries, []api.Entry{bothWrong}, api.ErrLong)
	isNotPut(t, Entries, []api.Entry{longKey, wrongKind}, api.ErrLong)
	isNotPut(t, Entries, []api.Entry{wrongKind, longKey}, api.ErrArg)
	isNotPut(t, Entries, []api.Entry{wrongKind, bothWrong}, api.ErrArg)
	isNotPut(t, Entries, []api.Entry{{}, wrongKind, {}, longKey, {}}, api.ErrArg)
	isNotPut(t, Entries, append(many(api.Entry{}, 65534), wrongKind), api.ErrArg)
	isNotPut(t, Entries, append(many(api.Entry{}, 65535), wrongKind), api.ErrLong)
	isNotPut(t, Entries, many(wrongKind, 65536), api.ErrLong)
	isNotPut(t, Entries, many(api.Entry{}, 65536), api.ErrLong)
}

// P3.2: the texts in their order, and what is behind.
func TestGetTexts(t *testing.T) {
	isGot(t, GetTexts, []byte{0, 0}, nil, sameText)
	isGot(t, GetTexts, []byte{0, 1, 0, 0}, []string{""}, sameText)
	isGot(t, GetTexts, []byte{0, 2, 0, 1, 97, 0, 1, 98}, []string{"a", "b"}, sameText)
	isGot(t, GetTexts, []byte{0, 3, 0, 1, 98, 0, 2, 97, 255, 0, 1, 98}, []string{"b", "a\xff", "b"}, sameText)
	isGot(t, GetTexts, joined([]byte{1, 0}, make([]byte, 2*256)), many("", 256), sameText)
	isGot(t, GetTexts, joined([]byte{255, 255}, make([]byte, 2*65535)), many("", 65535), sameText)
	isGot(t, GetTexts, joined([]byte{0, 1, 255, 255}, []byte(fits)), []string{fits}, sameText)
}

// P3.2: bytes that end too early, in the short and in each text.
func TestGetTextsShort(t *testing.T) {
	isNotGot(t, GetTexts, nil, api.ErrShort)
	isNotGot(t, GetTexts, []byte{255}, api.ErrShort)
	isNotGot(t, GetTexts, []byte{255, 255}, api.ErrShort)
	isNotGot(t, GetTexts, []byte{1, 0, 0, 0}, api.ErrShort)
	isNotGot(t, GetTexts, make([]byte, 1, 64), api.ErrShort)
	isNotGot(t, GetTexts, []byte{0, 2, 0, 1, 97, 0, 2, 98}, api.ErrShort)
	isShort(t, GetTexts, []byte{0, 0})
	isShort(t, GetTexts, []byte{0, 3, 0, 1, 97, 0, 0, 0, 2, 98, 99})
	isNotGot(t, GetTexts, joined([]byte{255, 255}, make([]byte, 2*65535-1)), api.ErrShort)
	isNotGot(t, GetTexts, joined([]byte{0, 1, 255, 255}, []byte(fits[1:])), api.ErrShort)
}

// P3.2: the pairs in their order, those that are there twice too, and what is behind.
func TestGetPairs(t *testing.T) {
	isGot(t, GetPairs, []byte{0, 0}, nil, samePair)
	isGot(t, GetPairs, []byte{0, 1, 0, 0, 0, 0}, []api.Pair{{}}, samePair)
	isGot(t, GetPairs, []byte{0, 1, 0, 1, 107, 0, 1, 118}, []api.Pair{{Key: "k", Value: "v"}}, samePair)
	isGot(t, GetPairs, []byte{0, 3, 0, 1, 98, 0, 1, 49, 0, 1, 97, 0, 0, 0, 1, 98, 0, 1, 49},
		[]api.Pair{{Key: "b", Value: "1"}, {Key: "a"}, {Key: "b", Value: "1"}}, samePair)
	isGot(t, GetPairs, joined([]byte{255, 255}, make([]byte, 4*65535)), many(api.Pair{}, 65535), samePair)
}

// P3.2: bytes that end too early, in the short, in each key and in each text.
func TestGetPairsShort(t *testing.T) {
	isNotGot(t, GetPairs, nil, api.ErrShort)
	isNotGot(t, GetPairs, []byte{0, 1, 0}, api.ErrShort)
	isNotGot(t, GetPairs, []byte{255, 255}, api.ErrShort)
	isNotGot(t, GetPairs, make([]byte, 1, 64), api.ErrShort)
	isShort(t, GetPairs, []byte{0, 0})
	isShort(t, GetPairs, []byte{0, 2, 0, 1, 107, 0, 2, 118, 119, 0, 0, 0, 1, 118})
	isNotGot(t, GetPairs, joined([]byte{255, 255}, make([]byte, 4*65535-1)), api.ErrShort)
}

// P3.2: the keys with their texts in their order, those that are there twice too, and what is behind.
func TestGetMultis(t *testing.T) {
	isGot(t, GetMultis, []byte{0, 0}, nil, sameMulti)
	isGot(t, GetMultis, []byte{0, 1, 0, 0, 0, 0}, []api.Multi{{}}, sameMulti)
	isGot(t, GetMultis, []byte{0, 1, 0, 1, 107, 0, 2, 0, 1, 120, 0, 1, 121},
		[]api.Multi{{Key: "k", Values: []string{"x", "y"}}}, sameMulti)
	isGot(t, GetMultis, []byte{0, 3, 0, 1, 107, 0, 3, 0, 1, 121, 0, 0, 0, 1, 121, 0, 1, 106, 0, 0, 0, 1, 107, 0, 1, 0, 1, 120},
		[]api.Multi{{Key: "k", Values: []string{"y", "", "y"}}, {Key: "j"}, {Key: "k", Values: []string{"x"}}}, sameMulti)
	isGot(t, GetMultis, joined([]byte{255, 255}, make([]byte, 4*65535)), many(api.Multi{}, 65535), sameMulti)
	isGot(t, GetMultis, joined([]byte{0, 1, 0, 0, 255, 255}, make([]byte, 2*65535)),
		[]api.Multi{{Values: many("", 65535)}}, sameMulti)
}

// P3.2: bytes that end too early, in the short, in each key, in its short and in each of its texts.
func TestGetMultisShort(t *testing.T) {
	isNotGot(t, GetMultis, nil, api.ErrShort)
	isNotGot(t, GetMultis, []byte{255, 255}, api.ErrShort)
	isNotGot(t, GetMultis, []byte{0, 1, 0, 0, 255, 255}, api.ErrShort)
	isNotGot(t, GetMultis, make([]byte, 1, 64), api.ErrShort)
	isShort(t, GetMultis, []byte{0, 0})
	isShort(t, GetMultis, []byte{0, 2, 0, 1, 107, 0, 2, 0, 2, 120, 121, 0, 0, 0, 1, 106, 0, 1, 0, 1, 122})
}

// P3.2: the keys with their values in their order, those that are there twice too, and what is behind.
func TestGetEntries(t *testing.T) {
	isGot(t, GetEntries, []byte{0, 0}, nil, sameEntry)
	isGot(t, GetEntries, []byte{0, 1, 0, 0, 255, 255, 255, 255}, []api.Entry{{}}, sameEntry)
	isGot(t, GetEntries, []byte{0, 1, 0, 1, 107, 0, 0, 0, 2, 7, 8}, []api.Entry{{Key: "k", Value: set(7, 8)}}, sameEntry)
	isGot(t, GetEntries, []byte{0, 3, 0, 1, 107, 0, 0, 0, 0, 0, 1, 106, 255, 255, 255, 254, 0, 1, 107, 255, 255, 255, 255},
		[]api.Entry{{Key: "k", Value: set()}, {Key: "j", Value: api.Value{Kind: api.Unset}}, {Key: "k"}}, sameEntry)
	isGot(t, GetEntries, joined([]byte{255, 255}, make([]byte, 6*65535)), many(api.Entry{Value: set()}, 65535), sameEntry)
}

// P3.2: each error of the short, of a key and of a value; the first part that has one tells its own, whatever is behind.
func TestGetEntriesErrors(t *testing.T) {
	isNotGot(t, GetEntries, nil, api.ErrShort)
	isNotGot(t, GetEntries, []byte{255, 255}, api.ErrShort)
	isNotGot(t, GetEntries, make([]byte, 1, 64), api.ErrShort)
	isShort(t, GetEntries, []byte{0, 0})
	isShort(t, GetEntries, []byte{0, 3, 0, 1, 107, 0, 0, 0, 2, 7, 8, 0, 0, 255, 255, 255, 254, 0, 1, 106, 255, 255, 255, 255})
	wrong := []byte{255, 255, 255, 253}
	isNotGot(t, GetEntries, joined([]byte{0, 1, 0, 1, 107}, wrong), api.ErrForm)
	isNotGot(t, GetEntries, joined([]byte{0, 1, 0, 0, 128, 0, 0, 0, 1, 2}), api.ErrForm)
	isNotGot(t, GetEntries, joined([]byte{0, 2, 0, 0}, wrong), api.ErrForm)
	isNotGot(t, GetEntries, joined([]byte{0, 2, 0, 0}, wrong, []byte{0, 0, 0, 0, 0, 0}), api.ErrForm)
	isNotGot(t, GetEntries, joined([]byte{0, 2, 0, 0, 0, 0, 0, 1, 7, 0, 0}, wrong), api.ErrForm)
	isNotGot(t, GetEntries, joined([]byte{0, 2, 0, 0, 0, 0, 0, 9, 7, 0, 0}, wrong), api.ErrShort)
	isNotGot(t, GetEntries, joined([]byte{0, 1, 0, 9}, wrong), api.ErrShort)
}

// P3.2: what is wrong behind the last item isn't looked at.
func TestBehindIsNotRead(t *testing.T) {
	l, rest, e := GetEntries([]byte{0, 1, 0, 0, 255, 255, 255, 255, 0, 0, 255, 255, 255, 253})
	if len(l) != 1 || !bytes.Equal(rest, []byte{0, 0, 255, 255, 255, 253}) || e != api.OK {
		t.Error(l, rest, e)
	}
}

// P3.1, P3.2: answers are new memory: what is handed in neither follows them nor is kept.
func TestNewMemory(t *testing.T) {
	in := []byte{1, 2}
	b, _ := Entries([]api.Entry{{Value: set(in...)}, {Value: api.Value{Kind: api.Set, Bytes: in}}})
	was := bytes.Clone(b)
	in[0] = 99
	if !bytes.Equal(b, was) {
		t.Error("kept:", b)
	}
	l, _, _ := GetEntries(b)
	b[8] = 77
	l[0].Value.Bytes[1] = 78
	l[0].Value.Bytes = append(l[0].Value.Bytes, 79)
	if l[0].Value.Bytes[0] != 1 || !bytes.Equal(l[1].Value.Bytes, []byte{1, 2}) || b[9] != 2 || b[10] != was[10] {
		t.Error("shared:", l, b)
	}
	b, _ = Multis(many(api.Multi{Key: "k", Values: []string{"x", "y", "z"}}, 2))
	m, _, _ := GetMultis(b)
	b[4] = 'j'
	m[0].Values[0] = "changed"
	m[0].Values = append(m[0].Values, "more")
	if m[0].Key != "k" || !slices.Equal(m[1].Values, []string{"x", "y", "z"}) {
		t.Error("shared:", m)
	}
}

// P3.1: lists that are put stay as they were.
func TestPutChangesNothing(t *testing.T) {
	in := make([]byte, 2, 64)
	l := []api.Entry{{Key: "b", Value: api.Value{Kind: api.Set, Bytes: in}}, {Key: "a", Value: kindless}}
	Entries(l)
	Entries(l[:1])
	if l[0].Key != "b" || l[1].Key != "a" || !bytes.Equal(in[:64], make([]byte, 64)) {
		t.Error(l, in[:64])
	}
	m := []api.Multi{{Key: "b", Values: []string{"y", "x"}}, {Key: "a"}}
	Multis(m)
	if m[0].Key != "b" || !slices.Equal(m[0].Values, []string{"y", "x"}) || m[1].Key != "a" {
		t.Error(m)
	}
}

// putIsGot fails unless these items, put, are got with what is behind, and put again are the same bytes.
func putIsGot[T any](t *testing.T, put func([]T) ([]byte, api.Errno), get func([]byte) ([]T, []byte, api.Errno), l []T, same func(a, b T) bool) {
	t.Helper()
	b, e := put(l)
	if e != api.OK {
		t.Error(e)
	}
	isGot(t, get, b, l, same)
	got, _, _ := get(b)
	isPut(t, put, got, b)
}

// P3.3: what is put is got, with what is behind, and what is got is put as it was.
func TestPutIsGot(t *testing.T) {
	texts := []string{"", "a", "a", "\x00\xff", "na\u00efve", strings.Repeat("xyz", 100), fits, "a"}
	var pairs []api.Pair
	var multis []api.Multi
	var entries []api.Entry
	for i, key := range texts {
		for j, other := range texts {
			pairs = append(pairs, api.Pair{Key: key, Value: other})
			entries = append(entries, api.Entry{Key: key, Value: set([]byte(other)...)})
			multis = append(multis, api.Multi{Key: other, Values: texts[min(i, j):max(i, j)]})
		}
		entries = append(entries, api.Entry{Key: key}, api.Entry{Key: key, Value: api.Value{Kind: api.Unset}})
	}
	putIsGot(t, Texts, GetTexts, texts, sameText)
	putIsGot(t, Pairs, GetPairs, pairs, samePair)
	putIsGot(t, Multis, GetMultis, multis, sameMulti)
	putIsGot(t, Entries, GetEntries, entries, sameEntry)
	putIsGot(t, Texts, GetTexts, nil, sameText)
	putIsGot(t, Pairs, GetPairs, nil, samePair)
	putIsGot(t, Multis, GetMultis, nil, sameMulti)
	putIsGot(t, Entries, GetEntries, nil, sameEntry)
	putIsGot(t, Texts, GetTexts, many("ab", 65535), sameText)
	putIsGot(t, Pairs, GetPairs, many(api.Pair{Key: "a"}, 65535), samePair)
	putIsGot(t, Multis, GetMultis, many(api.Multi{Values: []string{"a", "b"}}, 65535), sameMulti)
	putIsGot(t, Entries, GetEntries, many(api.Entry{Value: set(7)}, 65535), sameEntry)
}

// gotIsPut fails unless these bytes, where they are items at all, are put again as they were.
func gotIsPut[T any](t *testing.T, put func([]T) ([]byte, api.Errno), get func([]byte) ([]T, []byte, api.Errno), b []byte) {
	t.Helper()
	l, rest, e := get(b)
	if e != api.OK {
		isNotGot(t, get, b, e)
		return
	}
	isPut(t, put, l, b[:len(b)-len(rest)])
}

// P3.3: whatever bytes there are, what is got of them is put as it was.
func TestGotIsPut(t *testing.T) {
	parts := []byte{0, 0, 0, 1, 255, 2}
	state := uint32(1)
	for range 20000 {
		b := make([]byte, 24)
		for i := range b {
			state = state*1664525 + 1013904223
			b[i] = parts[(state>>24)%uint32(len(parts))]
		}
		b[0], b[1] = 0, b[1]&3
		gotIsPut(t, Texts, GetTexts, b)
		gotIsPut(t, Pairs, GetPairs, b)
		gotIsPut(t, Multis, GetMultis, b)
		gotIsPut(t, Entries, GetEntries, b)
	}
}

// P3.3: lists of all kinds, one behind the other, are got in their order.
func TestManyAreGot(t *testing.T) {
	texts, _ := Texts([]string{"a"})
	pairs, _ := Pairs([]api.Pair{{Key: "b", Value: "c"}})
	multis, _ := Multis([]api.Multi{{Key: "d", Values: []string{"e"}}})
	entries, _ := Entries([]api.Entry{{Key: "f", Value: set(7)}})
	l, rest, e1 := GetTexts(joined(texts, pairs, multis, entries))
	p, rest, e2 := GetPairs(rest)
	m, rest, e3 := GetMultis(rest)
	n, rest, e4 := GetEntries(rest)
	if e1 != api.OK || e2 != api.OK || e3 != api.OK || e4 != api.OK || len(rest) != 0 {
		t.Fatal(e1, e2, e3, e4, rest)
	}
	if len(l) != 1 || len(p) != 1 || len(m) != 1 || len(n) != 1 {
		t.Fatal(l, p, m, n)
	}
	if l[0] != "a" || p[0].Value != "c" || m[0].Key != "d" || n[0].Value.Kind != api.Set {
		t.Error(l, p, m, n)
	}
}
