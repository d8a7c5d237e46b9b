package ring

import (
	"math"
	"slices"
	"strconv"
	"strings"
	"testing"

	"signalbox/api"
)

const (
	least    = math.MinInt64
	greatest = math.MaxInt64
)

// made is the ring of places that may be.
func made(t *testing.T, l ...Place) *Ring {
	t.Helper()
	r, e := New(l)
	if e != api.OK || r == nil {
		t.Fatalf("New(%s): %v, %v", brief(l), r, e)
	}
	return r
}

// brief is what is told of places in a test that fails.
func brief(l []Place) string {
	var texts []string
	for _, p := range l {
		texts = append(texts, strconv.FormatInt(p.Token, 10)+strconv.Quote(p.Host))
	}
	return "[" + strings.Join(texts, " ") + "]"
}

// orders are all orders of places.
func orders(l []Place) [][]Place {
	if len(l) == 0 {
		return [][]Place{nil}
	}
	var all [][]Place
	for i := range l {
		others := slices.Delete(slices.Clone(l), i, i+1)
		for _, behind := range orders(others) {
			all = append(all, append([]Place{l[i]}, behind...))
		}
	}
	return all
}

// P13.1: places that may be are a ring; which are there doesn't hang on the order they come in.
func TestNewInAnyOrder(t *testing.T) {
	rings := [][]Place{
		nil,
		{{5, "a"}},
		{{0, "a"}},
		{{least, "a"}},
		{{greatest, "a"}},
		{{10, "a"}, {20, "b"}},
		{{10, "a"}, {11, "a"}},
		{{-20, "b"}, {-10, "a"}, {10, "b"}},
		{{least, "a"}, {least + 1, "b"}, {-1, "a"}, {0, "c"}, {1, "a"}},
		{{least, "z"}, {0, "y"}, {greatest - 1, "x"}, {greatest, "w"}},
		{{1, " "}, {2, "\x00"}, {3, "a\x00"}, {4, "\xff\xfe"}},
	}
	for _, want := range rings {
		for _, l := range orders(want) {
			if got := made(t, l...).Places(); !slices.Equal(got, want) {
				t.Errorf("New(%s).Places(): %s, not %s", brief(l), brief(got), brief(want))
			}
		}
	}
}

// P13.1: nil and empty lists are one.
func TestNewOfNothing(t *testing.T) {
	for _, l := range [][]Place{nil, {}} {
		r, e := New(l)
		if r == nil || e != api.OK {
			t.Fatal(r, e)
		}
		if got := r.Places(); len(got) != 0 {
			t.Error(got)
		}
	}
}

// P13.1: an empty Host is told ahead of a Token that is there twice, wherever they stand.
func TestNewRefuses(t *testing.T) {
	cases := []struct {
		what string
		l    []Place
		want api.Errno
	}{
		{"an empty host, alone", []Place{{1, ""}}, api.ErrArg},
		{"an empty host of no token", []Place{{}}, api.ErrArg},
		{"an empty host, first", []Place{{1, ""}, {2, "a"}, {3, "b"}}, api.ErrArg},
		{"an empty host, between", []Place{{1, "a"}, {2, ""}, {3, "b"}}, api.ErrArg},
		{"an empty host, last", []Place{{1, "a"}, {2, "b"}, {3, ""}}, api.ErrArg},
		{"empty hosts alone", []Place{{1, ""}, {2, ""}}, api.ErrArg},
		{"twice, next to one another, same host", []Place{{1, "a"}, {1, "a"}}, api.ErrForm},
		{"twice, next to one another, another host", []Place{{1, "a"}, {1, "b"}}, api.ErrForm},
		{"twice, next to one another, behind others", []Place{{7, "a"}, {3, "b"}, {3, "c"}}, api.ErrForm},
		{"twice, apart, same host", []Place{{1, "a"}, {2, "b"}, {1, "a"}}, api.ErrForm},
		{"twice, apart, another host", []Place{{1, "a"}, {2, "b"}, {1, "c"}}, api.ErrForm},
		{"twice, apart, the greater ones", []Place{{2, "a"}, {1, "b"}, {2, "c"}}, api.ErrForm},
		{"twice, far apart", []Place{{5, "a"}, {1, "b"}, {2, "c"}, {9, "d"}, {7, "e"}, {5, "f"}}, api.ErrForm},
		{"three times", []Place{{5, "a"}, {5, "b"}, {5, "c"}}, api.ErrForm},
		{"nought twice", []Place{{0, "a"}, {1, "b"}, {0, "c"}}, api.ErrForm},
		{"the least twice", []Place{{least, "a"}, {0, "b"}, {least, "c"}}, api.ErrForm},
		{"the greatest twice", []Place{{greatest, "a"}, {0, "b"}, {greatest, "c"}}, api.ErrForm},
		{"both, the empty host first", []Place{{1, ""}, {2, "a"}, {2, "b"}}, api.ErrArg},
		{"both, the empty host last", []Place{{2, "a"}, {2, "b"}, {3, ""}}, api.ErrArg},
		{"both, the empty host below all", []Place{{2, "a"}, {2, "b"}, {1, ""}}, api.ErrArg},
		{"both, at one token", []Place{{2, "a"}, {2, ""}}, api.ErrArg},
		{"both, at one token, empty alone", []Place{{2, ""}, {2, ""}}, api.ErrArg},
	}
	for _, c := range cases {
		for _, l := range orders(c.l) {
			if r, e := New(l); e != c.want || r != nil {
				t.Errorf("%s: New(%s): %v, %v, not nil, %v", c.what, brief(l), r, e, c.want)
			}
		}
	}
}

// P13.1: a token that is there twice, or an empty host, is found at each place among many.
func TestNewRefusesAmongMany(t *testing.T) {
	for at := range 100 {
		var l []Place
		for i := range 100 {
			l = append(l, Place{int64(i * 37 % 101), "h" + strconv.Itoa(i%7)})
		}
		made(t, l...)
		twice := append(slices.Clone(l), Place{l[at].Token, "other"})
		if r, e := New(twice); e != api.ErrForm || r != nil {
			t.Errorf("twice, at %d: %v, %v", at, r, e)
		}
		l[at].Host = ""
		if r, e := New(l); e != api.ErrArg || r != nil {
			t.Errorf("empty, at %d: %v, %v", at, r, e)
		}
	}
}

// P13.1: tokens that differ by the highest bit, or by the lowest one, alone, aren't the same.
func TestNewTellsTokensApart(t *testing.T) {
	for bit := range 64 {
		a, b := int64(0), int64(uint64(1)<<bit)
		if _, e := New([]Place{{a, "a"}, {b, "a"}}); e != api.OK {
			t.Errorf("%d, %d: %v", a, b, e)
		}
		if _, e := New([]Place{{^a, "a"}, {^b, "a"}}); e != api.OK {
			t.Errorf("%d, %d: %v", ^a, ^b, e)
		}
	}
}

// P13.1: the places that are handed in are as they were, and the ring stays when they are changed.
func TestNewKeepsNothing(t *testing.T) {
	l := []Place{{30, "c"}, {10, "a"}, {20, "b"}, {99, "z"}}
	was := slices.Clone(l)
	r := made(t, l[:3]...)
	if !slices.Equal(l, was) {
		t.Fatalf("New changed its argument: %s", brief(l))
	}
	for i := range l {
		l[i] = Place{int64(-i), "other"}
	}
	if got := brief(r.Places()); got != brief([]Place{{10, "a"}, {20, "b"}, {30, "c"}}) {
		t.Error(got)
	}
	if host, _ := r.Owner(15); host != "b" {
		t.Error(host)
	}
	if got := r.Walk(15); !slices.Equal(got, []string{"b", "c", "a"}) {
		t.Error(got)
	}
}

// P13.1: places that are in order already are kept in memory of the ring's own, too, and one that is refused is as it was.
func TestNewKeepsNothingOfOrderedPlaces(t *testing.T) {
	l := []Place{{10, "a"}, {20, "b"}}
	r := made(t, l...)
	l[0], l[1] = Place{1, "x"}, Place{2, "y"}
	if got := brief(r.Places()); got != brief([]Place{{10, "a"}, {20, "b"}}) {
		t.Error(got)
	}
	for _, refused := range [][]Place{{{3, "a"}, {1, "b"}, {3, "c"}}, {{3, "a"}, {2, ""}, {1, "c"}}} {
		was := slices.Clone(refused)
		if _, e := New(refused); e == api.OK || !slices.Equal(refused, was) {
			t.Errorf("%s, which was %s: %v", brief(refused), brief(was), e)
		}
	}
}

// P13.1: Places answers new memory at each call.
func TestPlacesAreNew(t *testing.T) {
	r := made(t, Place{20, "b"}, Place{10, "a"})
	first, second := r.Places(), r.Places()
	for i := range first {
		first[i] = Place{int64(i) + 100, "other"}
	}
	_ = append(first[:1], Place{7, "behind"})
	_ = append(second, Place{8, "behind"})
	want := []Place{{10, "a"}, {20, "b"}}
	if !slices.Equal(second, want) || !slices.Equal(r.Places(), want) {
		t.Error(brief(second), brief(r.Places()))
	}
	if host, _ := r.Owner(10); host != "a" {
		t.Error(host)
	}
	if got := r.Walk(10); !slices.Equal(got, []string{"a", "b"}) {
		t.Error(got)
	}
}

// P13.1: two rings have nothing in common.
func TestRingsAreApart(t *testing.T) {
	l := []Place{{10, "a"}, {20, "b"}}
	first := made(t, l...)
	second := made(t, Place{10, "c"}, Place{20, "d"})
	third := made(t, l...)
	for i, r := range []*Ring{first, second, third} {
		want := []string{"a", "c", "a"}[i]
		if host, there := r.Owner(5); host != want || !there {
			t.Error(i, host, there)
		}
	}
}

// P13.4: of nil there is nothing.
func TestNil(t *testing.T) {
	var r *Ring
	if l := r.Places(); len(l) != 0 {
		t.Error(l)
	}
	for _, token := range []int64{least, -1, 0, 1, greatest} {
		if host, there := r.Owner(token); host != "" || there {
			t.Error(token, host, there)
		}
		if l := r.Walk(token); len(l) != 0 {
			t.Error(token, l)
		}
	}
}

// P13.2: without places nobody owns a token, and no host is on the walk; so, too, of a ring that New didn't make.
func TestWithoutPlaces(t *testing.T) {
	for _, r := range []*Ring{made(t), made(t, []Place{}...), {}} {
		for _, token := range []int64{least, -1, 0, 1, greatest} {
			if host, there := r.Owner(token); host != "" || there {
				t.Error(token, host, there)
			}
			if l := r.Walk(token); len(l) != 0 {
				t.Error(token, l)
			}
		}
		if l := r.Places(); len(l) != 0 {
			t.Error(l)
		}
	}
}
