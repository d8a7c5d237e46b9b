package ring

import (
	"slices"
	"strconv"
	"strings"
	"testing"

	"signalbox/api"
)

// The document's words, read most plainly, with no order of places and no search.

// plainFirst is where the place stands, in whatever order, whose token is the least of those that are this token or above; if there is none, of all.
func plainFirst(l []Place, token int64) int {
	at := -1
	for i, p := range l {
		if p.Token >= token && (at < 0 || p.Token < l[at].Token) {
			at = i
		}
	}
	if at >= 0 {
		return at
	}
	for i, p := range l {
		if at < 0 || p.Token < l[at].Token {
			at = i
		}
	}
	return at
}

// plainWalk takes place by place out of a list, each one where the search from behind the last one's token ends, and hands out the hosts that weren't handed out yet.
func plainWalk(l []Place, token int64) []string {
	var hosts []string
	rest := slices.Clone(l)
	for len(rest) > 0 {
		at := plainFirst(rest, token)
		p := rest[at]
		if !slices.Contains(hosts, p.Host) {
			hosts = append(hosts, p.Host)
		}
		token = p.Token
		rest = slices.Delete(rest, at, at+1)
	}
	return hosts
}

// chosen are all lists of so many different tokens out of these, in each order.
func chosen(n int, tokens []int64) [][]int64 {
	if n == 0 {
		return [][]int64{nil}
	}
	var all [][]int64
	for i, token := range tokens {
		others := slices.Delete(slices.Clone(tokens), i, i+1)
		for _, behind := range chosen(n-1, others) {
			all = append(all, append([]int64{token}, behind...))
		}
	}
	return all
}

// named are all lists of so many hosts out of a, b, c.
func named(n int) [][]string {
	if n == 0 {
		return [][]string{nil}
	}
	var all [][]string
	for _, ahead := range named(n - 1) {
		for _, host := range []string{"a", "b", "c"} {
			all = append(all, append(slices.Clone(ahead), host))
		}
	}
	return all
}

// check holds what a ring tells of a token against the plain reading.
func check(t *testing.T, r *Ring, l []Place, token int64) {
	t.Helper()
	want := plainWalk(l, token)
	got := r.Walk(token)
	if !slices.Equal(got, want) {
		t.Errorf("%s: Walk(%d): %q, not %q", brief(l), token, got, want)
	}
	host, there := r.Owner(token)
	if there != (len(l) > 0) || there && host != l[plainFirst(l, token)].Host || !there && host != "" {
		t.Errorf("%s: Owner(%d): %q, %v", brief(l), token, host, there)
	}
	if there && (len(got) == 0 || got[0] != host) { // P13.5
		t.Errorf("%s: %d: owner %q, walk %q", brief(l), token, host, got)
	}
}

// hostsOf are the hosts of places, rising, each one once.
func hostsOf(l []Place) []string {
	var hosts []string
	for _, p := range l {
		hosts = append(hosts, p.Host)
	}
	slices.Sort(hosts)
	return slices.Compact(hosts)
}

// P13.2, P13.5: all small rings, in all orders, asked at the places' tokens and next to them, at the ends and between.
func TestSmallRings(t *testing.T) {
	tokens := []int64{least, -10, 0, 10, greatest}
	asked := []int64{least, least + 1, -11, -10, -9, -1, 0, 1, 9, 10, 11, greatest - 1, greatest}
	for n := range 5 {
		hosts := named(n)
		for _, c := range chosen(n, tokens) {
			for _, h := range hosts {
				var l []Place
				for i := range c {
					l = append(l, Place{c[i], h[i]})
				}
				r := made(t, l...)
				for _, token := range asked {
					check(t, r, l, token)
					all := r.Walk(token)
					slices.Sort(all)
					if !slices.Equal(all, hostsOf(l)) { // P13.5
						t.Errorf("%s: a walk has %q", brief(l), all)
					}
				}
			}
		}
	}
}

// P13.2: rings of each number of places up to 70, and great ones, at each of their tokens and next to it.
func TestLongRings(t *testing.T) {
	sizes := []int{127, 128, 129, 255, 256, 257}
	for n := range 71 {
		sizes = append(sizes, n)
	}
	for _, n := range sizes {
		var l []Place
		for i := range n {
			// 389 and 1009 have no factor in common: no token comes twice, and they come in no order
			l = append(l, Place{int64(i*389%1009*7 - 2500), "h" + strconv.Itoa(i*i%11)})
		}
		r := made(t, l...)
		for _, p := range l {
			for _, token := range []int64{p.Token - 1, p.Token, p.Token + 1} {
				check(t, r, l, token)
			}
		}
		check(t, r, l, least)
		check(t, r, l, greatest)
	}
}

// P13.2: at a place's token, one below it, one above it, above all, below all.
func TestOwner(t *testing.T) {
	usual := []Place{{30, "c"}, {10, "a"}, {20, "b"}}
	ends := []Place{{greatest, "z"}, {least, "y"}, {0, "x"}}
	cases := []struct {
		l     []Place
		token int64
		host  string
	}{
		{usual, 9, "a"}, {usual, 10, "a"}, {usual, 11, "b"},
		{usual, 19, "b"}, {usual, 20, "b"}, {usual, 21, "c"},
		{usual, 29, "c"}, {usual, 30, "c"}, {usual, 31, "a"},
		{usual, least, "a"}, {usual, -1, "a"}, {usual, 0, "a"}, {usual, greatest, "a"},
		{ends, least, "y"}, {ends, least + 1, "x"}, {ends, -1, "x"}, {ends, 0, "x"},
		{ends, 1, "z"}, {ends, greatest - 1, "z"}, {ends, greatest, "z"},
		{[]Place{{least, "y"}}, least, "y"}, {[]Place{{least, "y"}}, greatest, "y"},
		{[]Place{{greatest, "z"}}, least, "z"}, {[]Place{{greatest, "z"}}, greatest, "z"},
		{[]Place{{-5, "n"}, {5, "p"}}, -6, "n"}, {[]Place{{-5, "n"}, {5, "p"}}, -4, "p"}, {[]Place{{-5, "n"}, {5, "p"}}, 6, "n"},
		{[]Place{{10, "a"}, {20, "b"}}, 11, "b"}, {[]Place{{10, "a"}, {20, "b"}}, 21, "a"},
	}
	for _, c := range cases {
		if host, there := made(t, c.l...).Owner(c.token); host != c.host || !there {
			t.Errorf("%s: Owner(%d): %q, %v, not %q", brief(c.l), c.token, host, there, c.host)
		}
	}
}

// P13.2: the walk goes round from the owner's place; a host stands at the first of its places from there.
func TestWalk(t *testing.T) {
	usual := []Place{{30, "c"}, {10, "a"}, {20, "b"}}
	several := []Place{{10, "a"}, {20, "b"}, {30, "a"}, {40, "c"}, {50, "b"}, {60, "a"}}
	cases := []struct {
		l     []Place
		token int64
		hosts string
	}{
		{usual, 9, "a b c"}, {usual, 10, "a b c"}, {usual, 11, "b c a"},
		{usual, 20, "b c a"}, {usual, 21, "c a b"}, {usual, 30, "c a b"},
		{usual, 31, "a b c"}, {usual, least, "a b c"}, {usual, greatest, "a b c"},
		{several, 0, "a b c"}, {several, 10, "a b c"}, {several, 11, "b a c"},
		{several, 20, "b a c"}, {several, 21, "a c b"}, {several, 31, "c b a"},
		{several, 41, "b a c"}, {several, 51, "a b c"}, {several, 60, "a b c"}, {several, 61, "a b c"},
		{[]Place{{1, "a"}}, 0, "a"}, {[]Place{{1, "a"}}, 1, "a"}, {[]Place{{1, "a"}}, 2, "a"},
		{[]Place{{1, "a"}, {2, "a"}, {3, "a"}}, 2, "a"},
		{[]Place{{1, "b"}, {2, "a"}, {3, "b"}}, 3, "b a"},
		{[]Place{{1, "a"}, {2, "b"}, {3, "a"}, {4, "b"}}, 4, "b a"},
		{[]Place{{least, "y"}, {0, "x"}, {greatest, "z"}}, least, "y x z"},
		{[]Place{{least, "y"}, {0, "x"}, {greatest, "z"}}, least + 1, "x z y"},
		{[]Place{{least, "y"}, {0, "x"}, {greatest, "z"}}, 1, "z y x"},
		{[]Place{{least, "y"}, {0, "x"}, {greatest, "z"}}, greatest, "z y x"},
		{[]Place{{1, "A"}, {2, "a"}, {3, "a\x00"}, {4, "A"}}, 2, "a a\x00 A"},
	}
	for _, c := range cases {
		if got := strings.Join(made(t, c.l...).Walk(c.token), " "); got != c.hosts {
			t.Errorf("%s: Walk(%d): %q, not %q", brief(c.l), c.token, got, c.hosts)
		}
	}
}

// P13.2: a walk is new memory, and what is asked doesn't change what is answered next.
func TestWalkIsNew(t *testing.T) {
	r := made(t, Place{10, "a"}, Place{20, "b"}, Place{30, "a"}, Place{40, "c"})
	first, second := r.Walk(15), r.Walk(15)
	for i := range first {
		first[i] = "other"
	}
	_ = append(first[:1], "behind")
	_ = append(second, "behind")
	want := []string{"b", "a", "c"}
	if !slices.Equal(second, want) || !slices.Equal(r.Walk(15), want) {
		t.Error(second, r.Walk(15))
	}
	if got := brief(r.Places()); got != brief([]Place{{10, "a"}, {20, "b"}, {30, "a"}, {40, "c"}}) {
		t.Error(got)
	}
	for range 3 {
		if host, there := r.Owner(35); host != "c" || !there {
			t.Error(host, there)
		}
		if got := r.Walk(35); !slices.Equal(got, []string{"c", "a", "b"}) {
			t.Error(got)
		}
		if _, e := New([]Place{{1, "x"}, {1, "y"}}); e != api.ErrForm {
			t.Error(e)
		}
	}
}
