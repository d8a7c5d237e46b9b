package replica

import (
	"math"
	"slices"
	"strconv"
	"strings"
	"testing"

	"signalbox/api"
	"signalbox/ring"
)

const (
	least    = math.MinInt64
	greatest = math.MaxInt64
)

// circle is a ring of these hosts, at the tokens 10, 20, 30 and so on.
func circle(t *testing.T, hosts ...string) *ring.Ring {
	t.Helper()
	var l []ring.Place
	for i, h := range hosts {
		l = append(l, ring.Place{Token: int64(i+1) * 10, Host: h})
	}
	r, e := ring.New(l)
	if e != api.OK {
		t.Fatal(l, e)
	}
	return r
}

// sitesFrom are the sites of a text such as "a:d/1 b:d/2": a host, its center, its rack.
func sitesFrom(text string) []Site {
	var l []Site
	for _, word := range strings.Fields(text) {
		host, stands, _ := strings.Cut(word, ":")
		dc, rack, _ := strings.Cut(stands, "/")
		l = append(l, Site{Host: host, Dc: dc, Rack: rack})
	}
	return l
}

// factorsFrom are the factors of a text such as "d:2 x:1".
func factorsFrom(t *testing.T, text string) []Factor {
	t.Helper()
	var l []Factor
	for _, word := range strings.Fields(text) {
		dc, digits, _ := strings.Cut(word, ":")
		n, err := strconv.Atoi(digits)
		if err != nil {
			t.Fatal(err)
		}
		l = append(l, Factor{Dc: dc, N: n})
	}
	return l
}

// P14.1: the first hosts from the token's owner on, each one once, no more than there are.
func TestSimple(t *testing.T) {
	cases := []struct {
		ring  string
		token int64
		n     int
		want  string
	}{
		{"a", 0, 1, "a"},
		{"a", 0, 0, ""},
		{"a", 0, -1, ""},
		{"a", 0, 2, "a"},
		{"a b c", 0, 0, ""},
		{"a b c", 0, -1, ""},
		{"a b c", 0, math.MinInt, ""},
		{"a b c", 0, 1, "a"},
		{"a b c", 0, 2, "a b"},
		{"a b c", 0, 3, "a b c"},
		{"a b c", 0, 4, "a b c"},
		{"a b c", 0, math.MaxInt, "a b c"},
		{"a b c", 10, 2, "a b"},
		{"a b c", 11, 1, "b"},
		{"a b c", 11, 2, "b c"},
		{"a b c", 20, 3, "b c a"},
		{"a b c", 21, 2, "c a"},
		{"a b c", 30, 3, "c a b"},
		{"a b c", 31, 2, "a b"},
		{"a b c", least, 2, "a b"},
		{"a b c", greatest, 2, "a b"},
		{"a a b", 0, 2, "a b"},
		{"a b a c", 0, 3, "a b c"},
		{"a b a c", 21, 2, "a c"},
		{"a b a c", 31, 3, "c a b"},
		{"b a b a", 11, 9, "a b"},
		{"c b a", 0, 2, "c b"},
	}
	for _, c := range cases {
		r := circle(t, strings.Fields(c.ring)...)
		if got := strings.Join(Simple(r, c.token, c.n), " "); got != c.want {
			t.Errorf("%s: Simple(%d, %d): %q, not %q", c.ring, c.token, c.n, got, c.want)
		}
	}
}

// P14.1: nobody is on a ring of nil, and on one without places.
func TestSimpleOfNothing(t *testing.T) {
	for _, r := range []*ring.Ring{nil, {}, circle(t)} {
		for _, n := range []int{math.MinInt, -1, 0, 1, 2, math.MaxInt} {
			for _, token := range []int64{least, -1, 0, 1, greatest} {
				if got := Simple(r, token, n); len(got) != 0 {
					t.Errorf("Simple(%v, %d, %d): %q", r, token, n, got)
				}
			}
		}
	}
}

// P14.1: rings of each number of hosts, each of them at several places, held against the list turned round.
func TestSimpleOfManyHosts(t *testing.T) {
	for count := range 30 {
		var names, places []string
		for i := range count {
			names = append(names, "h"+strconv.Itoa(i*7%31))
		}
		for range 3 {
			places = append(places, names...)
		}
		r := circle(t, places...)
		for at := range places {
			turned := append(slices.Clone(names[at%count:]), names[:at%count]...)
			for n := range count + 3 {
				want := turned[:min(n, count)]
				if got := Simple(r, int64(at)*10+1, n); !slices.Equal(got, want) {
					t.Errorf("%d hosts: Simple(%d, %d): %q, not %q", count, at*10+1, n, got, want)
				}
			}
		}
	}
}

// P14.1: what is answered is new memory, and a call changes no ring.
func TestSimpleSharesNothing(t *testing.T) {
	r := circle(t, "a", "b", "a", "c")
	before := r.Places()
	first := Simple(r, 0, 2)
	second := Simple(r, 0, 2)
	for i := range first[:cap(first)] {
		first[:cap(first)][i] = "z"
	}
	if !slices.Equal(second, []string{"a", "b"}) {
		t.Errorf("%q", second)
	}
	if got := Simple(r, 0, 3); !slices.Equal(got, []string{"a", "b", "c"}) {
		t.Errorf("%q", got)
	}
	if !slices.Equal(r.Places(), before) {
		t.Error(r.Places())
	}
}

// P14.2: a host of the ring without a site, and a Dc that is there twice, each alone and both; no host is told then.
func TestNetworkRefuses(t *testing.T) {
	cases := []struct {
		what, ring, sites, factors string
	}{
		{"no sites", "a", "", "d:1"},
		{"no sites and no factors", "a", "", ""},
		{"the first host without a site", "a b c", "b:d/1 c:d/2", "d:1"},
		{"one between without a site", "a b c", "a:d/1 c:d/2", "d:1"},
		{"the last host without a site", "a b c", "a:d/1 b:d/2", "d:1"},
		{"the last host without a site, as many are there as are needed", "a b c", "a:d/1 b:d/2", "d:2"},
		{"a host of several places without a site", "a b a b", "a:d/1", "d:1"},
		{"a host without a site, no factors", "a b", "a:d/1", ""},
		{"a host without a site, a factor of nought", "a b", "a:d/1", "d:0"},
		{"a host without a site, a factor of another center", "a b", "a:d/1", "x:1"},
		{"a site of another host alone", "a", "b:d/1", "d:1"},
		{"a longer name", "a", "aa:d/1", "d:1"},
		{"another letter", "a", "A:d/1", "d:1"},
		{"a site of no host", "a", ":d/1", "d:1"},
		{"a center twice, next to one another", "a", "a:d/1", "d:1 d:1"},
		{"a center twice, another N", "a", "a:d/1", "d:1 d:2"},
		{"a center twice, N of 0 first", "a", "a:d/1", "d:0 d:1"},
		{"a center twice, N of 0 last", "a", "a:d/1", "d:1 d:0"},
		{"a center twice, N of 0", "a", "a:d/1", "d:0 d:0"},
		{"a center twice, N below 0", "a", "a:d/1", "d:-1 d:-1"},
		{"a center twice, apart", "a", "a:d/1", "d:1 x:1 d:1"},
		{"a center twice, far apart", "a", "a:d/1", "d:1 u:1 v:1 w:1 x:1 y:1 d:1"},
		{"a center twice, behind others", "a", "a:d/1", "u:1 v:1 d:1 d:1"},
		{"a center three times", "a", "a:d/1", "d:1 d:1 d:1"},
		{"a center that has no host, twice", "a", "a:d/1", "x:1 d:1 x:1"},
		{"the center without a name twice", "a", "a:d/1", ":1 d:1 :1"},
		{"both", "a b", "a:d/1", "d:1 d:1"},
		{"both, no sites", "a", "", "d:1 x:1 d:1"},
		{"a center twice, a ring without places", "", "a:d/1", "d:1 d:1"},
		{"a center twice, a ring without places, no sites", "", "", "d:1 x:2 d:1"},
	}
	for _, c := range cases {
		r := circle(t, strings.Fields(c.ring)...)
		for _, token := range []int64{least, 0, 10, 11, 21, 31, greatest} {
			got, e := Network(r, token, sitesFrom(c.sites), factorsFrom(t, c.factors))
			if e != api.ErrArg || len(got) != 0 {
				t.Errorf("%s: from %d: %q, %v", c.what, token, got, e)
			}
		}
	}
	got, e := Network(nil, 0, nil, factorsFrom(t, "d:1 d:1"))
	if e != api.ErrArg || len(got) != 0 {
		t.Errorf("a center twice, no ring: %q, %v", got, e)
	}
}

// P14.2: nobody is taken where there is nobody, or nobody is asked for; nil and empty lists are one.
func TestNetworkOfNothing(t *testing.T) {
	some := sitesFrom("a:d/1 b:x/1")
	asked := factorsFrom(t, "d:1 x:2")
	for _, sites := range [][]Site{nil, {}, some} {
		for _, factors := range [][]Factor{nil, {}, asked} {
			for _, r := range []*ring.Ring{nil, {}, circle(t)} {
				if got, e := Network(r, 0, sites, factors); len(got) != 0 || e != api.OK {
					t.Errorf("Network(%v, %v, %v): %q, %v", r, sites, factors, got, e)
				}
			}
		}
	}
	for _, factors := range [][]Factor{nil, {}} {
		if got, e := Network(circle(t, "a", "b"), 0, some, factors); len(got) != 0 || e != api.OK {
			t.Errorf("no factors: %q, %v", got, e)
		}
	}
}

// P14.2: what is handed in isn't changed, nor what stands behind it in its memory; what is answered is new memory.
func TestNetworkSharesNothing(t *testing.T) {
	r := circle(t, "a", "b", "c", "e", "a")
	places := r.Places()
	sites := sitesFrom("z:d/9 c:d/2 a:d/1 b:d/1 a:x/7 e:x/1 q:d/1 q:d/2")
	factors := factorsFrom(t, "x:1 d:3 y:2 d:4")
	sitesBefore, factorsBefore := slices.Clone(sites), slices.Clone(factors)
	want := []string{"a", "c", "b", "e"}

	first, e := Network(r, 0, sites[:6], factors[:3])
	if !slices.Equal(first, want) || e != api.OK {
		t.Fatalf("%q, %v", first, e)
	}
	second, _ := Network(r, 0, sites[:6], factors[:3])
	if !slices.Equal(sites, sitesBefore) || !slices.Equal(factors, factorsBefore) || !slices.Equal(r.Places(), places) {
		t.Error(sites, factors, r.Places())
	}
	for i := range first[:cap(first)] {
		first[:cap(first)][i] = "z"
	}
	clear(sites)
	clear(factors)
	if !slices.Equal(second, want) {
		t.Errorf("%q", second)
	}
	if third, e := Network(r, 0, sitesBefore[:6], factorsBefore[:3]); !slices.Equal(third, want) || e != api.OK {
		t.Errorf("%q, %v", third, e)
	}
}

// P14.2: a refused call changes nothing either.
func TestNetworkRefusedSharesNothing(t *testing.T) {
	r := circle(t, "a", "b")
	places := r.Places()
	sites, factors := sitesFrom("b:d/1 b:d/2"), factorsFrom(t, "x:1 d:3 x:2")
	sitesBefore, factorsBefore := slices.Clone(sites), slices.Clone(factors)
	if _, e := Network(r, 0, sites, factors); e != api.ErrArg {
		t.Error(e)
	}
	if !slices.Equal(sites, sitesBefore) || !slices.Equal(factors, factorsBefore) || !slices.Equal(r.Places(), places) {
		t.Error(sites, factors, r.Places())
	}
}
