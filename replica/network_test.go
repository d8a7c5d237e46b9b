package replica

import (
	"math"
	"slices"
	"strconv"
	"strings"
	"testing"

	"signalbox/api"
)

// Two centers mixed on the walk: d has the racks 1 (a, b), 2 (c), 3 (f), x has the rack 1 (g, e).
const (
	mixedRing  = "a b c g e f"
	mixedSites = "a:d/1 b:d/1 c:d/2 g:x/1 e:x/1 f:d/3"
)

// P14.2: who is taken, in which order, worked out by hand.
func TestNetwork(t *testing.T) {
	cases := []struct {
		what, ring string
		token      int64
		sites      string
		factors    string
		want       string
	}{
		{"the document's example", "a b c", 0, "a:d/1 b:d/1 c:d/2", "d:2", "a c"},

		{"mixed", mixedRing, 0, mixedSites, "d:1", "a"},
		{"mixed", mixedRing, 0, mixedSites, "d:2", "a c"},
		{"mixed", mixedRing, 0, mixedSites, "d:3", "a c f"},
		{"mixed", mixedRing, 0, mixedSites, "d:4", "a c f b"},
		{"mixed", mixedRing, 0, mixedSites, "d:5", "a c f b"},
		{"mixed", mixedRing, 0, mixedSites, "x:1", "g"},
		{"mixed", mixedRing, 0, mixedSites, "x:2", "g e"},
		{"mixed", mixedRing, 0, mixedSites, "x:3", "g e"},
		{"mixed", mixedRing, 0, mixedSites, "d:4 x:2", "a c g e f b"},
		{"mixed, factors the other way round", mixedRing, 0, mixedSites, "x:2 d:4", "a c g e f b"},
		{"mixed", mixedRing, 0, mixedSites, "d:2 x:1", "a c g"},
		{"mixed", mixedRing, 0, mixedSites, "d:1 x:2", "a g e"},
		{"mixed, from b", mixedRing, 11, mixedSites, "d:4 x:2", "b c g e f a"},
		{"mixed, from b", mixedRing, 20, mixedSites, "d:3 x:1", "b c g f"},
		{"mixed, from c", mixedRing, 21, mixedSites, "d:4 x:2", "c g e f a b"},
		{"mixed, from c", mixedRing, 30, mixedSites, "d:3 x:2", "c g e f a"},
		{"mixed, from e", mixedRing, 41, mixedSites, "d:4 x:2", "e f a c b g"},
		{"mixed, from e", mixedRing, 50, mixedSites, "d:3 x:1", "e f a c"},
		{"mixed, from e", mixedRing, 50, mixedSites, "d:3 x:2", "e f a c g"},
		{"mixed, from f", mixedRing, 51, mixedSites, "d:2 x:2", "f a g e"},
		{"mixed, behind all", mixedRing, 61, mixedSites, "d:2 x:1", "a c g"},
		{"mixed, least", mixedRing, least, mixedSites, "d:3", "a c f"},
		{"mixed, greatest", mixedRing, greatest, mixedSites, "d:3", "a c f"},

		{"N of 0", "a b", 0, "a:d/1 b:d/2", "d:0", ""},
		{"N below 0", "a b", 0, "a:d/1 b:d/2", "d:-1", ""},
		{"N of 0, another center", "a b c", 0, "a:d/1 b:x/2 c:d/2", "d:0 x:1", "b"},
		{"N below 0, another center", "a b c", 0, "a:d/1 b:x/2 c:d/2", "x:1 d:-7", "b"},
		{"N below 0 of one rack", "a b", 0, "a:d/1 b:d/1", "d:-2", ""},
		{"the least N", "a b", 0, "a:d/1 b:d/1", "d:" + strconv.Itoa(math.MinInt), ""},
		{"the greatest N", "a b c", 0, "a:d/1 b:d/1 c:d/2", "d:" + strconv.Itoa(math.MaxInt), "a c b"},
		{"the greatest N of two centers", "a b c", 0, "a:d/1 b:x/1 c:d/1", "d:" + strconv.Itoa(math.MaxInt) + " x:" + strconv.Itoa(math.MaxInt), "a b c"},
		{"a center that has no host", "a b", 0, "a:d/1 b:d/2", "x:2", ""},
		{"a center that has no host, and one that has", "a b", 0, "a:d/1 b:d/2", "x:2 d:2", "a b"},
		{"centers without a Factor", "a b c e", 0, "a:u/1 b:d/1 c:v/1 e:d/2", "d:2", "b e"},
		{"no center of a Factor", "a b c", 0, "a:u/1 b:v/1 c:w/1", "d:2", ""},
		{"no factors", "a b c", 0, "a:u/1 b:v/1 c:w/1", "", ""},

		{"one rack", "a b c", 0, "a:d/1 b:d/1 c:d/1", "d:1", "a"},
		{"one rack", "a b c", 0, "a:d/1 b:d/1 c:d/1", "d:2", "a b"},
		{"one rack", "a b c", 11, "a:d/1 b:d/1 c:d/1", "d:2", "b c"},
		{"one rack", "a b c", 21, "a:d/1 b:d/1 c:d/1", "d:3", "c a b"},
		{"as many racks as hosts", "a b c", 0, "a:d/1 b:d/2 c:d/3", "d:1", "a"},
		{"as many racks as hosts", "a b c", 0, "a:d/1 b:d/2 c:d/3", "d:2", "a b"},
		{"as many racks as hosts", "a b c", 11, "a:d/1 b:d/2 c:d/3", "d:3", "b c a"},
		{"as many racks as hosts", "a b c", 11, "a:d/1 b:d/2 c:d/3", "d:4", "b c a"},

		{"all wait but one", "a b c e f g", 0, "a:d/1 b:d/1 c:d/1 e:d/1 f:d/2 g:d/1", "d:1", "a"},
		{"all wait but one", "a b c e f g", 0, "a:d/1 b:d/1 c:d/1 e:d/1 f:d/2 g:d/1", "d:2", "a f"},
		{"all wait but one", "a b c e f g", 0, "a:d/1 b:d/1 c:d/1 e:d/1 f:d/2 g:d/1", "d:3", "a f b"},
		{"all wait but one", "a b c e f g", 0, "a:d/1 b:d/1 c:d/1 e:d/1 f:d/2 g:d/1", "d:4", "a f b c"},
		{"all wait but one", "a b c e f g", 0, "a:d/1 b:d/1 c:d/1 e:d/1 f:d/2 g:d/1", "d:5", "a f b c e"},
		{"all wait but one", "a b c e f g", 0, "a:d/1 b:d/1 c:d/1 e:d/1 f:d/2 g:d/1", "d:6", "a f b c e g"},
		{"all wait but one, in no order of names", "f c e a b g", 0, "a:d/1 b:d/2 c:d/1 e:d/1 f:d/1 g:d/1", "d:5", "f b c e a"},
		{"those of several racks wait", "a b c e f g", 0, "a:d/1 b:d/1 c:d/2 e:d/2 f:d/1 g:d/3", "d:3", "a c g"},
		{"those of several racks wait", "a b c e f g", 0, "a:d/1 b:d/1 c:d/2 e:d/2 f:d/1 g:d/3", "d:4", "a c g b"},
		{"those of several racks wait", "a b c e f g", 0, "a:d/1 b:d/1 c:d/2 e:d/2 f:d/1 g:d/3", "d:5", "a c g b e"},
		{"those of several racks wait", "a b c e f g", 0, "a:d/1 b:d/1 c:d/2 e:d/2 f:d/1 g:d/3", "d:6", "a c g b e f"},
		{"those of several racks wait, from c", "a b c e f g", 21, "a:d/1 b:d/1 c:d/2 e:d/2 f:d/1 g:d/3", "d:6", "c f g e a b"},
		{"a host behind the last rack", "a b c e f", 0, "a:d/1 b:d/1 c:d/2 e:d/2 f:d/1", "d:4", "a c b e"},
		{"fewer are needed than there are racks", "a b c e", 0, "a:d/1 b:d/1 c:d/2 e:d/3", "d:2", "a c"},
		{"one waits in each of two centers", "a k b l c m", 0, "a:d/1 b:d/1 c:d/2 k:x/1 l:x/1 m:x/2", "d:3 x:3", "a k c b m l"},
		{"one waits in each of two centers", "a k b l c m", 0, "a:d/1 b:d/1 c:d/2 k:x/1 l:x/1 m:x/2", "d:2 x:3", "a k c m l"},
		{"one center is whole ahead of the other one", "a b k c l m", 0, "a:d/1 b:d/1 c:d/2 k:x/1 l:x/1 m:x/2", "d:1 x:2", "a k m"},
		{"racks of the same name in two centers", "a k b l", 0, "a:d/1 b:d/1 k:x/1 l:x/2", "d:2 x:2", "a k b l"},
		{"racks of the same name in two centers", "a k b l", 0, "a:d/1 b:d/2 k:x/2 l:x/1", "d:1 x:1", "a k"},
		{"a rack of the same name elsewhere isn't one's own", "a k b l", 0, "a:d/1 b:d/1 k:x/2 l:x/2", "d:2 x:2", "a k b l"},
		{"a rack of the same name elsewhere, no Factor", "a k b", 0, "a:d/1 b:d/1 k:x/2", "d:2", "a b"},

		{"racks of hosts without a place", "a b c", 0, "a:d/1 b:d/1 c:d/2 z:d/9", "d:3", "a c b"},
		{"racks of hosts without a place, ahead", "a b c", 0, "z:d/9 a:d/1 b:d/1 c:d/2", "d:3", "a c b"},
		{"racks of hosts without a place, one rack", "a b", 0, "a:d/1 b:d/1 y:d/8 z:d/9", "d:2", "a b"},
		{"hosts without a place aren't taken", "a", 0, "a:d/1 y:d/1 z:d/2", "d:3", "a"},
		{"a center of hosts without a place", "a", 0, "a:d/1 z:x/1", "x:1 d:1", "a"},
		{"two sites, the first one counts", "a b", 0, "a:d/1 b:d/1 a:x/1", "d:2 x:2", "a b"},
		{"two sites, the first one counts", "a b", 0, "a:x/1 b:d/1 a:d/1", "d:2", "b"},
		{"two sites, next to one another", "a b", 0, "a:x/1 a:d/1 b:d/1", "x:1", "a"},
		{"two sites of two racks", "a b c", 0, "a:d/1 a:d/2 b:d/1 c:d/2", "d:3", "a c b"},
		{"two sites of two racks", "a b c", 0, "a:d/2 a:d/1 b:d/1 c:d/2", "d:2", "a b"},
		{"two sites, the other one's rack doesn't count", "a b", 0, "a:d/1 b:d/1 a:d/9", "d:2", "a b"},
		{"three sites", "a b c", 0, "b:d/1 a:d/1 a:d/2 a:d/3 c:d/3", "d:3", "a c b"},

		{"several places", "a b a c b a", 0, "a:d/1 b:d/1 c:d/2", "d:3", "a c b"},
		{"several places", "a b a c b a", 0, "a:d/1 b:d/1 c:d/2", "d:2", "a c"},
		{"several places, from the third one", "a b a c b a", 21, "a:d/1 b:d/1 c:d/2", "d:3", "a c b"},
		{"several places, from the fifth one", "a b a c b a", 41, "a:d/1 b:d/1 c:d/2", "d:3", "b c a"},
		{"several places next to one another", "a a a b b", 0, "a:d/1 b:d/1", "d:2", "a b"},
		{"several places, more needed", "a a a", 0, "a:d/1", "d:3", "a"},

		{"names that are empty", "a b c", 0, "a:/ b:/ c:/1", ":3", "a c b"},
		{"a center without a name, no Factor", "a b c", 0, "a:/ b:d/ c:/1", "d:3", "b"},
		{"a rack without a name", "a b c", 0, "a:d/ b:d/ c:d/1", "d:2", "a c"},
		{"another letter is another center", "a b", 0, "a:d/1 b:D/1", "D:2", "b"},
		{"another letter is another rack", "a b c", 0, "a:d/r b:d/r c:d/R", "d:2", "a c"},
	}
	for _, c := range cases {
		r := circle(t, strings.Fields(c.ring)...)
		got, e := Network(r, c.token, sitesFrom(c.sites), factorsFrom(t, c.factors))
		if strings.Join(got, " ") != c.want || e != api.OK {
			t.Errorf("%s: ring %s from %d, sites %s, factors %s: %q, %v, not %q", c.what, c.ring, c.token, c.sites, c.factors, got, e, c.want)
		}
	}
}

// P14.2: in which order sites of different hosts and factors stand is not to be seen, nor is any map's order.
func TestNetworkInAnyOrder(t *testing.T) {
	r := circle(t, strings.Fields("a k b l c m p f g")...)
	sites := sitesFrom("a:d/1 b:d/1 c:d/2 f:d/3 k:x/1 l:x/1 m:x/2 p:y/1 g:d/2")
	factors := factorsFrom(t, "d:5 x:3 y:1 v:2 w:0")
	want := strings.Fields("a k c m l p f b g")
	for i := range 200 {
		at, of := i%len(sites), i%len(factors)
		turnedSites := append(slices.Clone(sites[at:]), sites[:at]...)
		turnedFactors := append(slices.Clone(factors[of:]), factors[:of]...)
		if i%2 == 1 {
			slices.Reverse(turnedSites)
			slices.Reverse(turnedFactors)
		}
		if got, e := Network(r, 0, turnedSites, turnedFactors); !slices.Equal(got, want) || e != api.OK {
			t.Fatalf("%v, %v: %q, %v", turnedSites, turnedFactors, got, e)
		}
	}
}

// P14.2: nothing is kept from call to call.
func TestNetworkKeepsNothing(t *testing.T) {
	r := circle(t, "a", "b", "c")
	for range 3 {
		for _, c := range []struct{ sites, factors, want string }{
			{"a:d/1 b:d/1 c:d/2", "d:2", "a c"},
			{"a:d/1 b:d/2 c:d/2", "d:2", "a b"},
			{"a:d/1 b:d/1 c:d/1", "d:2", "a b"},
			{"a:x/1 b:d/1 c:d/1", "d:2", "b c"},
			{"a:x/1 b:d/1 c:d/1", "d:1 x:1", "a b"},
		} {
			got, e := Network(r, 0, sitesFrom(c.sites), factorsFrom(t, c.factors))
			if strings.Join(got, " ") != c.want || e != api.OK {
				t.Errorf("%s, %s: %q, %v", c.sites, c.factors, got, e)
			}
			if _, e := Network(r, 0, nil, nil); e != api.ErrArg {
				t.Error(e)
			}
		}
	}
}
