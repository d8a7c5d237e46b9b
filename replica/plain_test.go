package replica

import (
	"cmp"
	"slices"
	"strconv"
	"testing"

	"signalbox/api"
	"signalbox/ring"
)

// Who is taken when, told without going through the walk: of each rack the first host comes at its own turn. The other ones that come ahead of the last rack's first host come right behind that one, those behind it at their own turn. In that order they are cut off at N.

type turn struct {
	at    int // the place on the walk at which the host is taken
	waits int // 1, if another host is taken there ahead of it
	own   int // the host's own place on the walk
}

func byTurn(a, b turn) int {
	return cmp.Or(cmp.Compare(a.at, b.at), cmp.Compare(a.waits, b.waits), cmp.Compare(a.own, b.own))
}

// heads tells of which rack's first host which place is, and where the last one of these stands.
func heads(walk []Site, dc string) (map[int]bool, int) {
	first, last := map[int]bool{}, -1
	for i, s := range walk {
		alike := func(o Site) bool { return o.Dc == s.Dc && o.Rack == s.Rack }
		if s.Dc == dc && slices.IndexFunc(walk, alike) == i {
			first[i] = true
			last = i
		}
	}
	return first, last
}

// turns are the turns of one center's hosts, in the order in which they are taken.
func turns(walk []Site, f Factor) []turn {
	first, last := heads(walk, f.Dc)
	var l []turn
	for i, s := range walk {
		switch {
		case s.Dc != f.Dc:
		case first[i] || i > last:
			l = append(l, turn{i, 0, i})
		default:
			l = append(l, turn{last, 1, i})
		}
	}
	slices.SortFunc(l, byTurn)
	return l[:min(max(f.N, 0), len(l))]
}

// plainNetwork are the hosts of all centers by their turns.
func plainNetwork(walk []Site, factors []Factor) []string {
	var l []turn
	for _, f := range factors {
		l = append(l, turns(walk, f)...)
	}
	slices.SortFunc(l, byTurn)
	var hosts []string
	for _, x := range l {
		hosts = append(hosts, walk[x.own].Host)
	}
	return hosts
}

// follows tells whether P14.3 holds: as many of each center as are needed, racks in turn, no host twice.
func follows(walk []Site, factors []Factor, got []string) bool {
	counts := map[string]int{} // of each center
	of := map[string]int{}     // of each rack of each center
	racks := map[string]map[string]bool{}
	stands := map[string]Site{}
	for _, s := range walk {
		stands[s.Host] = s
		counts[s.Dc]++
		if racks[s.Dc] == nil {
			racks[s.Dc] = map[string]bool{}
		}
		racks[s.Dc][s.Rack] = true
	}
	seen, taken := map[string]bool{}, map[string]int{}
	for _, h := range got {
		s, there := stands[h]
		if !there || seen[h] {
			return false
		}
		seen[h] = true
		taken[s.Dc]++
		of[s.Dc+"/"+s.Rack]++
		for rack := range racks[s.Dc] {
			if of[s.Dc+"/"+s.Rack] > 1 && of[s.Dc+"/"+rack] == 0 {
				return false
			}
		}
	}
	all := 0
	for _, f := range factors {
		needed := max(min(f.N, counts[f.Dc]), 0)
		all += needed
		if taken[f.Dc] != needed {
			return false
		}
	}
	return all == len(got)
}

// compare holds what Network answers against the plain reading.
func compare(t *testing.T, r *ring.Ring, token int64, walk []Site, factors []Factor) {
	t.Helper()
	want := plainNetwork(walk, factors)
	got, e := Network(r, token, walk, factors)
	if !slices.Equal(got, want) || e != api.OK {
		t.Fatalf("sites %v, factors %v: %q, %v, not %q", walk, factors, got, e, want)
	}
	if !follows(walk, factors, got) {
		t.Fatalf("sites %v, factors %v: %q isn't what follows", walk, factors, got)
	}
}

// someFactors are factors of each of two centers, or of none, in both orders.
func someFactors() [][]Factor {
	var all [][]Factor
	numbers := []int{-2, -1, 0, 1, 2, 3, 4, 6} // -2 stands for no Factor
	for _, d := range numbers {
		for _, x := range numbers {
			var l []Factor
			if d > -2 {
				l = append(l, Factor{"d", d})
			}
			if x > -2 {
				l = append(l, Factor{"x", x})
			}
			if d > x {
				slices.Reverse(l)
			}
			all = append(all, l)
		}
	}
	return all
}

// P14.2, P14.3: up to five hosts, each of them in each of two centers and three racks.
func TestSmallClusters(t *testing.T) {
	kinds := sitesFrom(":d/1 :d/2 :d/3 :x/1 :x/2 :x/3")
	names := []string{"c", "a", "e", "b", "f"}
	factors := someFactors()
	clusters := 1
	for n := range len(names) + 1 {
		r := circle(t, names[:n]...)
		for which := range clusters {
			var walk []Site
			for _, name := range names[:n] {
				s := kinds[which%len(kinds)]
				s.Host = name
				walk = append(walk, s)
				which /= len(kinds)
			}
			for _, l := range factors {
				compare(t, r, 0, walk, l)
			}
		}
		clusters *= len(kinds)
	}
}

// P14.2, P14.3: many hosts of several centers and many racks, each one at several places, from each token on.
func TestGreatClusters(t *testing.T) {
	for _, size := range []int{7, 12, 25, 60} {
		var names []string
		stands := map[string]Site{}
		for i := range size {
			s := Site{"h" + strconv.Itoa(i), "d" + strconv.Itoa(i*i%7%3), "r" + strconv.Itoa(i*5%11%7)}
			stands[s.Host] = s
			names = append(names, s.Host)
		}
		var places []string
		for i := range size * 4 {
			places = append(places, names[(i*i+i/3)%size])
		}
		r := circle(t, places...)
		for at := range places {
			var walk []Site
			turned := append(slices.Clone(places[at:]), places[:at]...)
			for i, h := range turned {
				if slices.Index(turned, h) == i {
					walk = append(walk, stands[h])
				}
			}
			for n := range 9 {
				compare(t, r, int64(at)*10+10, walk, []Factor{{"d0", n}, {"d1", 8 - n}, {"d2", n * 3}, {"d9", 2}})
			}
			compare(t, r, int64(at)*10+1, walk, []Factor{{"d2", size}, {"d0", size * 2}})
		}
	}
}
