package request

import (
	"bytes"
	"fmt"
	"math"
	"math/rand/v2"
	"slices"
	"strings"
	"testing"

	"signalbox/api"
)

// known are the opcodes that requests have.
var known = []byte{1, 5, 7, 9, 10, 11, 13, 15}

// sample is a request with the bytes of its body.
type sample struct {
	request Request
	body    []byte
}

// null, unset and set are values of each kind.
var (
	null  = api.Value{Kind: api.Null}
	unset = api.Value{Kind: api.Unset}
)

func set(b ...byte) api.Value {
	return api.Value{Kind: api.Set, Bytes: b}
}

// wrong is a value of a kind that there isn't.
var wrong = api.Value{Kind: 3}

// long is a text that no short can tell.
var long = strings.Repeat("q", 65536)

// many are n values that are there.
func many(n int) []api.Value {
	return slices.Repeat([]api.Value{unset}, n)
}

// join are bytes one behind the other, in new memory.
func join(parts ...[]byte) []byte {
	return slices.Concat(parts...)
}

// samples are ordinary requests of every opcode, byte by byte.
func samples() []sample {
	return slices.Concat(plainSamples(), runSamples(), batchSamples())
}

// plainSamples are those that have no run.
func plainSamples() []sample {
	return []sample{
		{Request{Opcode: 1}, []byte{0, 0}},
		{Request{Opcode: 1, Options: []api.Pair{{Key: "k", Value: "v"}}}, []byte{0, 1, 0, 1, 107, 0, 1, 118}},
		{Request{Opcode: 1, Options: []api.Pair{{Key: "z"}, {Value: "a"}, {Key: "z"}}}, []byte{0, 3, 0, 1, 122, 0, 0, 0, 0, 0, 1, 97, 0, 1, 122, 0, 0}},
		{Request{Opcode: 5}, nil},
		{Request{Opcode: 9}, []byte{0, 0, 0, 0}},
		{Request{Opcode: 9, Text: "a"}, []byte{0, 0, 0, 1, 97}},
		{Request{Opcode: 9, Text: "\xff\x00\n"}, []byte{0, 0, 0, 3, 255, 0, 10}},
		{Request{Opcode: 11}, []byte{0, 0}},
		{Request{Opcode: 11, Events: []string{"b", "", "b"}}, []byte{0, 3, 0, 1, 98, 0, 0, 0, 1, 98}},
		{Request{Opcode: 15, Token: null}, []byte{255, 255, 255, 255}},
		{Request{Opcode: 15, Token: unset}, []byte{255, 255, 255, 254}},
		{Request{Opcode: 15, Token: set()}, []byte{0, 0, 0, 0}},
		{Request{Opcode: 15, Token: set(0, 255)}, []byte{0, 0, 0, 2, 0, 255}},
	}
}

// runSamples are queries and what was prepared.
func runSamples() []sample {
	return []sample{
		{Request{Opcode: 7}, []byte{0, 0, 0, 0, 0, 0, 0}},
		{Request{Opcode: 7, Text: "ab", Params: Params{Consistency: 10}}, []byte{0, 0, 0, 2, 97, 98, 0, 10, 0}},
		{Request{Opcode: 7, Text: "a", Params: Params{Consistency: 1, Values: []api.Value{set(7), null, unset}}},
			[]byte{0, 0, 0, 1, 97, 0, 1, 1, 0, 3, 0, 0, 0, 1, 7, 255, 255, 255, 255, 255, 255, 255, 254}},
		{Request{Opcode: 7, Text: "a", Params: Params{Consistency: 1, Values: []api.Value{set(7), null}, Names: []string{"n", ""}, Timed: true, Time: -2}},
			[]byte{0, 0, 0, 1, 97, 0, 1, 97, 0, 2, 0, 1, 110, 0, 0, 0, 1, 7, 0, 0, 255, 255, 255, 255, 255, 255, 255, 255, 255, 255, 255, 254}},
		{Request{Opcode: 10, Params: Params{Consistency: 4}}, []byte{0, 0, 0, 4, 0}},
		{Request{Opcode: 10, Id: []byte{9, 8}, Params: Params{Skip: true, Paged: true, Page: 0x01020304}}, []byte{0, 2, 9, 8, 0, 0, 6, 1, 2, 3, 4}},
		{Request{Opcode: 10, Id: []byte{1}, Params: Params{Resumed: true, State: set(5), Serially: true, Serial: 9, Timed: true, Time: 0x0102030405060708}},
			[]byte{0, 1, 1, 0, 0, 56, 0, 0, 0, 1, 5, 0, 9, 1, 2, 3, 4, 5, 6, 7, 8}},
	}
}

// batchSamples are batches.
func batchSamples() []sample {
	return []sample{
		{Request{Opcode: 13}, []byte{0, 0, 0, 0, 0, 0}},
		{Request{Opcode: 13, Kind: 2, Params: Params{Consistency: 6}}, []byte{2, 0, 0, 0, 6, 0}},
		{Request{Opcode: 13, All: []Statement{{Text: "a"}}}, []byte{0, 0, 1, 0, 0, 0, 0, 1, 97, 0, 0, 0, 0, 0}},
		{Request{Opcode: 13, All: []Statement{{Prepared: true, Id: []byte{9, 8}}}}, []byte{0, 0, 1, 1, 0, 2, 9, 8, 0, 0, 0, 0, 0}},
		{Request{Opcode: 13, All: []Statement{{}, {Prepared: true}}}, []byte{0, 0, 2, 0, 0, 0, 0, 0, 0, 0, 1, 0, 0, 0, 0, 0, 0, 0}},
		{Request{Opcode: 13, Kind: 1, All: []Statement{
			{Text: "b", Values: []api.Value{set(1), null}},
			{Prepared: true, Id: []byte{7}, Values: []api.Value{unset}},
		}, Params: Params{Consistency: 2, Serially: true, Serial: 8, Timed: true, Time: 3}},
			[]byte{1, 0, 2, 0, 0, 0, 0, 1, 98, 0, 2, 0, 0, 0, 1, 1, 255, 255, 255, 255, 1, 0, 1, 7, 0, 1, 255, 255, 255, 254, 0, 2, 48, 0, 8, 0, 0, 0, 0, 0, 0, 0, 3}},
	}
}

// sameValue tells whether two values are alike; nil and empty bytes are.
func sameValue(x, y api.Value) bool {
	return x.Kind == y.Kind && bytes.Equal(x.Bytes, y.Bytes)
}

// sameParams tells whether two runs have the same parts.
func sameParams(x, y Params) bool {
	return x.Consistency == y.Consistency && slices.EqualFunc(x.Values, y.Values, sameValue) && slices.Equal(x.Names, y.Names) &&
		x.Skip == y.Skip && x.Paged == y.Paged && x.Page == y.Page && x.Resumed == y.Resumed && sameValue(x.State, y.State) &&
		x.Serially == y.Serially && x.Serial == y.Serial && x.Timed == y.Timed && x.Time == y.Time
}

// sameStatement tells whether two statements are alike.
func sameStatement(x, y Statement) bool {
	return x.Prepared == y.Prepared && x.Text == y.Text && bytes.Equal(x.Id, y.Id) && slices.EqualFunc(x.Values, y.Values, sameValue)
}

// same tells whether two requests are alike, nil and empty lists being one.
func same(x, y Request) bool {
	return x.Opcode == y.Opcode && slices.Equal(x.Options, y.Options) && x.Text == y.Text && bytes.Equal(x.Id, y.Id) &&
		sameParams(x.Params, y.Params) && slices.Equal(x.Events, y.Events) && sameValue(x.Token, y.Token) &&
		x.Kind == y.Kind && slices.EqualFunc(x.All, y.All, sameStatement)
}

// some are the first bytes, as a text that isn't too long to read.
func some(b []byte) string {
	if len(b) > 60 {
		return fmt.Sprintf("%v and %d more", b[:60], len(b)-60)
	}
	return fmt.Sprint(b)
}

// puts fails unless the request's body is just this.
func puts(t *testing.T, r Request, want []byte) {
	t.Helper()
	if b, e := Put(r); !bytes.Equal(b, want) || e != api.OK {
		t.Fatalf("Put of opcode %d: %s, %d, want %s", r.Opcode, some(b), e, some(want))
	}
}

// putsNot fails unless putting is this error, and nothing beside it.
func putsNot(t *testing.T, r Request, want api.Errno) {
	t.Helper()
	if b, e := Put(r); len(b) != 0 || e != want {
		t.Fatalf("Put of opcode %d: %s, %d, want %d alone", r.Opcode, some(b), e, want)
	}
}

// gets fails unless just this request is got, of bytes that stay as they are.
func gets(t *testing.T, b []byte, want Request) {
	t.Helper()
	was := bytes.Clone(b)
	if r, e := Get(want.Opcode, b); !same(r, want) || e != api.OK {
		t.Fatalf("Get of opcode %d, %s: %d, want another request", want.Opcode, some(b), e)
	}
	if !bytes.Equal(b, was) {
		t.Fatalf("%s is changed to %s", some(was), some(b))
	}
}

// getsNot fails unless getting is this error, and nothing beside it.
func getsNot(t *testing.T, opcode byte, b []byte, want api.Errno) {
	t.Helper()
	if r, e := Get(opcode, b); !same(r, Request{}) || e != want {
		t.Fatalf("Get of opcode %d, %s: opcode %d, %d, want %d alone", opcode, some(b), r.Opcode, e, want)
	}
}

// holds fails unless the request is put as this body, and got of it; the body cut anywhere is too short, and with a byte behind too long.
func holds(t *testing.T, x sample) {
	t.Helper()
	puts(t, x.request, x.body)
	gets(t, x.body, x.request)
	for n := range x.body {
		getsNot(t, x.request.Opcode, x.body[:n], api.ErrShort)
		getsNot(t, x.request.Opcode, x.body[:n:n], api.ErrShort)
	}
	for _, behind := range []byte{0, 1, 255} {
		getsNot(t, x.request.Opcode, join(x.body, []byte{behind}), api.ErrBody)
	}
	getsNot(t, x.request.Opcode, join(x.body, x.body, []byte{0}), api.ErrBody)
}

// P8.1: the chapter's example.
func TestExample(t *testing.T) {
	puts(t, Request{Opcode: api.Prepare, Text: "a"}, []byte{0, 0, 0, 1, 97})
}

// P8.1, P8.2: ordinary requests of every opcode, put and got, cut anywhere, and with bytes behind.
func TestEveryOpcode(t *testing.T) {
	for _, x := range samples() {
		holds(t, x)
	}
}

// P8.1, P8.2: an opcode that is none of these is told ahead of all else.
func TestOtherOpcodes(t *testing.T) {
	bad := Request{Options: make([]api.Pair, 65536), Text: "a", Id: make([]byte, 65536), Params: Params{Consistency: 11, Names: []string{"n"}}, Events: []string{long}, Token: wrong, Kind: 3}
	for opcode := range 256 {
		if slices.Contains(known, byte(opcode)) {
			continue
		}
		bad.Opcode = byte(opcode)
		putsNot(t, bad, api.ErrOpcode)
		putsNot(t, Request{Opcode: byte(opcode)}, api.ErrOpcode)
		getsNot(t, byte(opcode), nil, api.ErrOpcode)
		getsNot(t, byte(opcode), []byte{}, api.ErrOpcode)
		for _, x := range samples() {
			getsNot(t, byte(opcode), x.body, api.ErrOpcode)
		}
	}
}

// choice is a part of a run, by its flag: how it is set, and its bytes.
type choice struct {
	flag byte
	set  func(p *Params)
	laid []byte
}

// choices are the parts of runs but for values, in the order in which they stand.
func choices() []choice {
	return []choice{
		{2, func(p *Params) { p.Skip = true }, nil},
		{4, func(p *Params) { p.Paged, p.Page = true, -3 }, []byte{255, 255, 255, 253}},
		{8, func(p *Params) { p.Resumed, p.State = true, set(1, 2) }, []byte{0, 0, 0, 2, 1, 2}},
		{16, func(p *Params) { p.Serially, p.Serial = true, 8 }, []byte{0, 8}},
		{32, func(p *Params) { p.Timed, p.Time = true, math.MinInt64+1 }, []byte{128, 0, 0, 0, 0, 0, 0, 1}},
	}
}

// run is one with just these flags, and its bytes.
func run(flags byte) (Params, []byte) {
	p := Params{Consistency: 5}
	b := []byte{0, 5, flags}
	switch flags & 65 {
	case 1:
		p.Values = []api.Value{set(9), null}
		b = append(b, 0, 2, 0, 0, 0, 1, 9, 255, 255, 255, 255)
	case 65:
		p.Values = []api.Value{set(9), unset}
		p.Names = []string{"x", "yz"}
		b = append(b, 0, 2, 0, 1, 120, 0, 0, 0, 1, 9, 0, 2, 121, 122, 255, 255, 255, 254)
	}
	for _, c := range choices() {
		if flags&c.flag != 0 {
			c.set(&p)
			b = append(b, c.laid...)
		}
	}
	return p, b
}

// ahead are requests that have a run, with what stands ahead of it.
func ahead() []sample {
	return []sample{
		{Request{Opcode: 7, Text: "ab"}, []byte{0, 0, 0, 2, 97, 98}},
		{Request{Opcode: 10, Id: []byte{3}}, []byte{0, 1, 3}},
		{Request{Opcode: 13, Kind: 1, All: []Statement{{Text: "c", Values: []api.Value{null}}}}, []byte{1, 0, 1, 0, 0, 0, 0, 1, 99, 0, 1, 255, 255, 255, 255}},
	}
}

// mayBe tells whether a run of this opcode may have these flags.
func mayBe(opcode, flags byte) bool {
	if opcode == 13 {
		return flags&^48 == 0
	}
	return flags < 128 && (flags&64 == 0 || flags&1 != 0)
}

// P8.1, P8.2: runs of all flags, each alone, none, and all of them together; flags that may not be are told, whatever is behind.
func TestEveryFlag(t *testing.T) {
	for _, x := range ahead() {
		for flags := range 256 {
			p, b := run(byte(flags))
			r := x.request
			r.Params = p
			body := join(x.body, b)
			if mayBe(r.Opcode, byte(flags)) {
				holds(t, sample{r, body})
				continue
			}
			for n := len(x.body) + 3; n <= len(body); n++ {
				getsNot(t, r.Opcode, body[:n], api.ErrFlags)
			}
			getsNot(t, r.Opcode, join(body, make([]byte, 100)), api.ErrFlags)
			for n := range len(x.body) + 3 {
				getsNot(t, r.Opcode, body[:n], api.ErrShort)
			}
		}
	}
}

// P8.1: of a batch's run Values, Names, Skip, Paged and Resumed are told, each alone, with each other, and with those that may be.
func TestBatchRunHasNot(t *testing.T) {
	for flags := range byte(128) {
		if flags&^48 == 0 {
			continue
		}
		p, _ := run(flags)
		if flags&65 == 64 {
			p.Names = []string{"n"}
		}
		putsNot(t, Request{Opcode: 13, Params: p}, api.ErrArg)
		putsNot(t, Request{Opcode: 13, All: []Statement{{Text: "a"}}, Params: p}, api.ErrArg)
	}
	putsNot(t, Request{Opcode: 13, Params: Params{Values: many(65536)}}, api.ErrArg)
	putsNot(t, Request{Opcode: 13, Params: Params{Values: many(2), Names: []string{"a", "b"}}}, api.ErrArg)
}

// P8.1: names have to be none, or as many as the values.
func TestNames(t *testing.T) {
	for names := range 5 {
		for values := range 5 {
			p := Params{Values: many(values), Names: slices.Repeat([]string{"n"}, names)}
			for _, x := range ahead()[:2] {
				x.request.Params = p
				if names > 0 && names != values {
					putsNot(t, x.request, api.ErrArg)
					continue
				}
				if _, e := Put(x.request); e != api.OK {
					t.Fatal(names, values, e)
				}
			}
		}
	}
	putsNot(t, Request{Opcode: 7, Params: Params{Names: []string{""}}}, api.ErrArg)
	putsNot(t, Request{Opcode: 7, Params: Params{Names: make([]string, 65536)}}, api.ErrArg)
	puts(t, Request{Opcode: 7, Params: Params{Names: []string{}, Values: []api.Value{}}}, []byte{0, 0, 0, 0, 0, 0, 0})
	puts(t, Request{Opcode: 7, Params: Params{Names: []string{""}, Values: many(1)}}, []byte{0, 0, 0, 0, 0, 0, 65, 0, 1, 0, 0, 255, 255, 255, 254})
}

// P8.2: the flag 1 with no values, named or not, whatever is behind.
func TestNoValues(t *testing.T) {
	for _, x := range ahead()[:2] {
		for flags := range byte(128) {
			if flags&1 == 0 {
				continue
			}
			body := join(x.body, []byte{0, 0, flags, 0, 0})
			getsNot(t, x.request.Opcode, body, api.ErrForm)
			getsNot(t, x.request.Opcode, join(body, make([]byte, 100)), api.ErrForm)
			getsNot(t, x.request.Opcode, body[:len(body)-1], api.ErrShort)
			getsNot(t, x.request.Opcode, body[:len(body)-2], api.ErrShort)
		}
	}
}

// P8.1, P8.2: all kinds of batches, those that may be and those that may not.
func TestKinds(t *testing.T) {
	for kind := range 256 {
		r := Request{Opcode: 13, Kind: byte(kind)}
		body := []byte{byte(kind), 0, 0, 0, 0, 0}
		if kind <= 2 {
			holds(t, sample{r, body})
			continue
		}
		putsNot(t, r, api.ErrArg)
		for n := 1; n <= len(body); n++ {
			getsNot(t, 13, body[:n], api.ErrForm)
		}
		getsNot(t, 13, join(body, []byte{7}), api.ErrForm)
	}
}

// P8.2: bytes ahead of a statement, at its first and its second place.
func TestAheadOfStatement(t *testing.T) {
	for ahead := 2; ahead < 256; ahead++ {
		getsNot(t, 13, []byte{0, 0, 1, byte(ahead)}, api.ErrForm)
		getsNot(t, 13, []byte{0, 0, 1, byte(ahead), 0, 0, 0, 0, 0, 0, 0, 0, 0}, api.ErrForm)
		getsNot(t, 13, []byte{0, 0, 2, 1, 0, 0, 0, 0, byte(ahead)}, api.ErrForm)
		getsNot(t, 13, []byte{0, 0, 2, 0, 0, 0, 0, 0, 0, 0, byte(ahead)}, api.ErrForm)
	}
	getsNot(t, 13, []byte{0, 255, 255, 2}, api.ErrForm)
}

// P8.1, P8.2: consistencies of runs, all that there are, and others.
func TestConsistencies(t *testing.T) {
	for _, x := range ahead() {
		for _, c := range []uint16{0, 1, 2, 3, 4, 5, 6, 7, 8, 9, 10, 11, 255, 256, 257, 65535} {
			two := []byte{byte(c >> 8), byte(c)}
			x.request.Params = Params{Consistency: c}
			plain := sample{x.request, join(x.body, two, []byte{0})}
			x.request.Params = Params{Serially: true, Serial: c}
			serial := sample{x.request, join(x.body, []byte{0, 0, 16}, two)}
			for _, y := range []sample{plain, serial} {
				if c <= 10 {
					holds(t, y)
					continue
				}
				putsNot(t, y.request, api.ErrArg)
				getsNot(t, y.request.Opcode, y.body, api.ErrForm)
				getsNot(t, y.request.Opcode, join(y.body, []byte{1}), api.ErrForm)
			}
		}
	}
}

// P8.1, P8.2: numbers of runs with the sign and the width that they have.
func TestNumbers(t *testing.T) {
	for _, x := range ahead()[:2] {
		for _, c := range []struct {
			page int32
			laid []byte
		}{
			{0, []byte{0, 0, 0, 0}},
			{5000, []byte{0, 0, 19, 136}},
			{math.MaxInt32, []byte{127, 255, 255, 255}},
			{math.MinInt32, []byte{128, 0, 0, 0}},
			{-1, []byte{255, 255, 255, 255}},
		} {
			x.request.Params = Params{Paged: true, Page: c.page}
			holds(t, sample{x.request, join(x.body, []byte{0, 0, 4}, c.laid)})
		}
	}
	for _, x := range ahead() {
		for _, c := range []struct {
			time int64
			laid []byte
		}{
			{0, []byte{0, 0, 0, 0, 0, 0, 0, 0}},
			{math.MaxInt64, []byte{127, 255, 255, 255, 255, 255, 255, 255}},
			{math.MinInt64, []byte{128, 0, 0, 0, 0, 0, 0, 0}},
			{-1, []byte{255, 255, 255, 255, 255, 255, 255, 255}},
			{1 << 32, []byte{0, 0, 0, 1, 0, 0, 0, 0}},
		} {
			x.request.Params = Params{Timed: true, Time: c.time}
			holds(t, sample{x.request, join(x.body, []byte{0, 0, 32}, c.laid)})
		}
	}
}

// P8.1, P8.2: what is there may be empty: a state of no bytes, or of none at all, is there by its flag.
func TestStates(t *testing.T) {
	for _, x := range ahead()[:2] {
		for _, c := range []sample{
			{Request{Token: null}, []byte{255, 255, 255, 255}},
			{Request{Token: unset}, []byte{255, 255, 255, 254}},
			{Request{Token: set()}, []byte{0, 0, 0, 0}},
			{Request{Token: set(255)}, []byte{0, 0, 0, 1, 255}},
		} {
			x.request.Params = Params{Resumed: true, State: c.request.Token}
			holds(t, sample{x.request, join(x.body, []byte{0, 0, 8}, c.body)})
		}
	}
}

// P8.1, P8.2: as many as a short can tell, of All, of Values, and bytes of an Id, where each of them is told.
func TestMost(t *testing.T) {
	const most = 65535
	four := bytes.Repeat([]byte{255, 255, 255, 254}, most)
	named := bytes.Repeat([]byte{0, 1, 110, 255, 255, 255, 254}, most)
	id := bytes.Repeat([]byte{6}, most)
	for _, x := range []sample{
		{Request{Opcode: 7, Params: Params{Values: many(most)}}, join([]byte{0, 0, 0, 0, 0, 0, 1, 255, 255}, four)},
		{Request{Opcode: 7, Params: Params{Values: many(most), Names: slices.Repeat([]string{"n"}, most)}}, join([]byte{0, 0, 0, 0, 0, 0, 65, 255, 255}, named)},
		{Request{Opcode: 10, Params: Params{Values: many(most)}}, join([]byte{0, 0, 0, 0, 1, 255, 255}, four)},
		{Request{Opcode: 10, Id: id}, join([]byte{255, 255}, id, []byte{0, 0, 0})},
		{Request{Opcode: 13, All: make([]Statement, most)}, join([]byte{0, 255, 255}, make([]byte, 7*most), []byte{0, 0, 0})},
		{Request{Opcode: 13, All: []Statement{{Values: many(most)}}}, join([]byte{0, 0, 1, 0, 0, 0, 0, 0, 255, 255}, four, []byte{0, 0, 0})},
		{Request{Opcode: 13, All: []Statement{{Prepared: true, Id: id}}}, join([]byte{0, 0, 1, 1, 255, 255}, id, []byte{0, 0, 0, 0, 0})},
		{Request{Opcode: 9, Text: long}, join([]byte{0, 1, 0, 0}, []byte(long))},
		{Request{Opcode: 7, Text: long}, join([]byte{0, 1, 0, 0}, []byte(long), []byte{0, 0, 0})},
		{Request{Opcode: 11, Events: []string{long[1:]}}, join([]byte{0, 1, 255, 255}, []byte(long[1:]))},
	} {
		puts(t, x.request, x.body)
		gets(t, x.body, x.request)
		getsNot(t, x.request.Opcode, x.body[:len(x.body)-1], api.ErrShort)
		getsNot(t, x.request.Opcode, join(x.body, []byte{0}), api.ErrBody)
	}
}

// P8.1: more than a short can tell, of all that is told by one.
func TestTooMany(t *testing.T) {
	for _, n := range []int{65536, 65537, 1 << 17} {
		for _, r := range []Request{
			{Opcode: 7, Params: Params{Values: many(n)}},
			{Opcode: 7, Params: Params{Values: many(n), Names: make([]string, n)}},
			{Opcode: 10, Params: Params{Values: many(n)}},
			{Opcode: 10, Id: make([]byte, n)},
			{Opcode: 13, All: make([]Statement, n)},
			{Opcode: 13, All: []Statement{{Values: many(n)}}},
			{Opcode: 13, All: []Statement{{Prepared: true, Values: many(n)}}},
			{Opcode: 13, All: []Statement{{Prepared: true, Id: make([]byte, n)}}},
			{Opcode: 13, All: []Statement{{}, {Prepared: true, Id: make([]byte, n)}}},
			{Opcode: 1, Options: make([]api.Pair, n)},
			{Opcode: 11, Events: make([]string, n)},
		} {
			putsNot(t, r, api.ErrLong)
		}
	}
}

// P8.1: errors of prims and maps, of each part that has some.
func TestPutPartErrors(t *testing.T) {
	for _, c := range []struct {
		r Request
		e api.Errno
	}{
		{Request{Opcode: 1, Options: []api.Pair{{Key: long}}}, api.ErrLong},
		{Request{Opcode: 1, Options: []api.Pair{{}, {Value: long}}}, api.ErrLong},
		{Request{Opcode: 11, Events: []string{"a", long}}, api.ErrLong},
		{Request{Opcode: 15, Token: wrong}, api.ErrArg},
		{Request{Opcode: 15, Token: api.Value{Kind: -1}}, api.ErrArg},
		{Request{Opcode: 7, Params: Params{Values: []api.Value{wrong}}}, api.ErrArg},
		{Request{Opcode: 7, Params: Params{Values: []api.Value{null, wrong}}}, api.ErrArg},
		{Request{Opcode: 7, Params: Params{Values: many(2), Names: []string{"", long}}}, api.ErrLong},
		{Request{Opcode: 10, Params: Params{Resumed: true, State: wrong}}, api.ErrArg},
		{Request{Opcode: 10, Params: Params{Serially: true, Serial: 11}}, api.ErrArg},
		{Request{Opcode: 13, All: []Statement{{Values: []api.Value{wrong}}}}, api.ErrArg},
		{Request{Opcode: 13, All: []Statement{{Prepared: true, Values: []api.Value{unset, wrong}}}}, api.ErrArg},
	} {
		putsNot(t, c.r, c.e)
	}
}

// P8.1: of several errors the first one in the order of the body is told.
func TestPutFirstError(t *testing.T) {
	id := make([]byte, 65536)
	bad := append([]api.Value{wrong}, many(65535)...)
	for _, c := range []struct {
		r Request
		e api.Errno
	}{
		{Request{Opcode: 1, Options: append([]api.Pair{{Key: long}}, make([]api.Pair, 65535)...)}, api.ErrLong},
		{Request{Opcode: 7, Params: Params{Consistency: 11, Values: many(65536)}}, api.ErrArg},
		{Request{Opcode: 7, Params: Params{Consistency: 11, Values: many(1), Names: []string{long}}}, api.ErrArg},
		{Request{Opcode: 7, Params: Params{Values: many(65536), Names: []string{"n"}}}, api.ErrArg},
		{Request{Opcode: 7, Params: Params{Values: many(2), Names: []string{long}}}, api.ErrArg},
		{Request{Opcode: 7, Params: Params{Names: []string{long}}}, api.ErrArg},
		{Request{Opcode: 7, Params: Params{Values: bad}}, api.ErrLong},
		{Request{Opcode: 7, Params: Params{Values: []api.Value{wrong}, Names: []string{long}}}, api.ErrLong},
		{Request{Opcode: 7, Params: Params{Values: []api.Value{wrong, null}, Names: []string{"n", long}}}, api.ErrArg},
		{Request{Opcode: 7, Params: Params{Values: many(1), Names: []string{long}, Resumed: true, State: wrong}}, api.ErrLong},
		{Request{Opcode: 7, Params: Params{Values: many(65536), Resumed: true, State: wrong, Serially: true, Serial: 11}}, api.ErrLong},
		{Request{Opcode: 10, Id: id, Params: Params{Consistency: 11}}, api.ErrLong},
		{Request{Opcode: 10, Id: id, Params: Params{Names: []string{"n"}}}, api.ErrLong},
		{Request{Opcode: 10, Params: Params{Consistency: 11, Values: many(65536)}}, api.ErrArg},
		{Request{Opcode: 13, Kind: 3, All: make([]Statement, 65536)}, api.ErrArg},
		{Request{Opcode: 13, Kind: 255, All: []Statement{{Prepared: true, Id: id}}}, api.ErrArg},
		{Request{Opcode: 13, All: append([]Statement{{Values: []api.Value{wrong}}}, make([]Statement, 65535)...)}, api.ErrLong},
		{Request{Opcode: 13, All: []Statement{{Prepared: true, Id: id, Values: []api.Value{wrong}}}}, api.ErrLong},
		{Request{Opcode: 13, All: []Statement{{Values: bad}}}, api.ErrLong},
		{Request{Opcode: 13, All: []Statement{{Values: []api.Value{wrong}}, {Prepared: true, Id: id}}}, api.ErrArg},
		{Request{Opcode: 13, All: []Statement{{Values: many(65536)}, {Values: []api.Value{wrong}}}}, api.ErrLong},
		{Request{Opcode: 13, All: []Statement{{Prepared: true, Id: id}}, Params: Params{Consistency: 11}}, api.ErrLong},
		{Request{Opcode: 13, All: []Statement{{Values: many(65536)}}, Params: Params{Skip: true}}, api.ErrLong},
		{Request{Opcode: 13, All: make([]Statement, 65536), Params: Params{Paged: true}}, api.ErrLong},
		{Request{Opcode: 13, Params: Params{Values: many(1), Names: []string{long}}}, api.ErrArg},
	} {
		putsNot(t, c.r, c.e)
	}
}

// P8.2: errors of prims and maps, of each part that has some.
func TestGetPartErrors(t *testing.T) {
	for _, c := range []struct {
		opcode byte
		b      []byte
		e      api.Errno
	}{
		{1, []byte{0, 1, 0, 1, 107}, api.ErrShort},
		{1, []byte{255, 255, 0, 0, 0, 0}, api.ErrShort},
		{7, []byte{255, 255, 255, 255}, api.ErrForm},
		{7, []byte{128, 0, 0, 0, 0, 0, 0}, api.ErrForm},
		{7, []byte{127, 255, 255, 255, 0, 0, 0}, api.ErrShort},
		{7, []byte{0, 0, 0, 0, 0, 0, 1, 0, 1, 255, 255, 255, 253}, api.ErrForm},
		{7, []byte{0, 0, 0, 0, 0, 0, 1, 255, 255, 255, 255, 255, 255}, api.ErrShort},
		{7, []byte{0, 0, 0, 0, 0, 0, 65, 0, 1, 0, 0, 128, 0, 0, 0}, api.ErrForm},
		{7, []byte{0, 0, 0, 0, 0, 0, 8, 255, 255, 255, 253}, api.ErrForm},
		{9, []byte{255, 255, 255, 254}, api.ErrForm},
		{10, []byte{255, 255, 0, 0, 0}, api.ErrShort},
		{11, []byte{0, 2, 0, 0, 0}, api.ErrShort},
		{13, []byte{0, 0, 1, 0, 255, 255, 255, 255, 0, 0}, api.ErrForm},
		{13, []byte{0, 0, 1, 0, 0, 0, 0, 0, 0, 1, 255, 255, 255, 253}, api.ErrForm},
		{13, []byte{0, 255, 255, 0, 0, 0, 0, 0, 0, 0}, api.ErrShort},
		{13, []byte{0, 0, 1, 1, 0, 1, 9, 255, 255, 255, 255, 255, 255}, api.ErrShort},
		{15, []byte{255, 255, 255, 253}, api.ErrForm},
		{15, []byte{0, 0, 0, 2, 7}, api.ErrShort},
	} {
		getsNot(t, c.opcode, c.b, c.e)
	}
}

// P8.2: of several errors the first one in the order of the body is told; bytes that are left are told last.
func TestGetFirstError(t *testing.T) {
	for _, c := range []struct {
		opcode byte
		b      []byte
		e      api.Errno
	}{
		{7, []byte{0, 0, 0, 0, 0, 11, 128}, api.ErrForm},
		{7, []byte{0, 0, 0, 0, 0, 11}, api.ErrForm},
		{7, []byte{0, 0, 0, 0, 0, 11, 128, 0, 0}, api.ErrForm},
		{7, []byte{0, 0, 0, 0, 0, 10, 129, 0, 0}, api.ErrFlags},
		{7, []byte{0, 0, 0, 0, 0, 10, 64, 0, 0}, api.ErrFlags},
		{7, []byte{0, 0, 0, 0, 0, 10, 8, 255, 255, 255, 253, 0}, api.ErrForm},
		{7, []byte{0, 0, 0, 0, 0, 10, 1, 0, 0, 7}, api.ErrForm},
		{7, []byte{0, 0, 0, 0, 0, 10, 17, 0, 0, 0}, api.ErrForm},
		{7, []byte{0, 0, 0, 0, 0, 10, 17, 0, 1, 0, 0, 0, 1}, api.ErrShort},
		{7, []byte{0, 0, 0, 0, 0, 10, 24, 255, 255, 255, 255, 0, 11}, api.ErrForm},
		{7, []byte{0, 0, 0, 0, 0, 10, 24, 0, 0, 0, 4, 0, 11}, api.ErrShort},
		{7, []byte{0, 0, 0, 0, 0, 10, 48, 0, 11, 0}, api.ErrForm},
		{10, []byte{0, 2, 0, 0, 11}, api.ErrShort},
		{10, []byte{0, 0, 0, 11, 128}, api.ErrForm},
		{10, []byte{0, 0, 0, 1, 128}, api.ErrFlags},
		{13, []byte{3}, api.ErrForm},
		{13, []byte{3, 0, 1, 2}, api.ErrForm},
		{13, []byte{0, 0, 1, 0, 0, 0, 0, 1, 97, 0}, api.ErrShort},
		{13, []byte{0, 0, 2, 1, 0, 0, 0, 1, 255, 255, 255, 253, 2}, api.ErrForm},
		{13, []byte{0, 0, 2, 1, 0, 0, 0, 1, 0, 0, 0, 7, 2}, api.ErrShort},
		{13, []byte{0, 0, 0, 0, 11, 1}, api.ErrForm},
		{13, []byte{0, 0, 0, 0, 10, 1, 0, 0}, api.ErrFlags},
		{13, []byte{0, 0, 0, 0, 10, 16, 0}, api.ErrShort},
		{13, []byte{0, 0, 0, 0, 10, 16, 0, 11, 0}, api.ErrForm},
		{15, []byte{255, 255, 255, 253, 0}, api.ErrForm},
		{5, []byte{0}, api.ErrBody},
		{5, make([]byte, 1000), api.ErrBody},
	} {
		getsNot(t, c.opcode, c.b, c.e)
	}
}

// laden is a request of all parts; each of them, but for the text, is an error where an opcode has it.
func laden(opcode byte) Request {
	return Request{
		Opcode: opcode, Options: []api.Pair{{Key: long}}, Text: "t", Id: make([]byte, 65536),
		Params: Params{Consistency: 11, Values: many(65536), Names: []string{long}, Skip: true, Paged: true, Page: 1, Resumed: true, State: wrong, Serially: true, Serial: 11, Timed: true, Time: 1},
		Events: []string{long}, Token: wrong, Kind: 3, All: make([]Statement, 65536),
	}
}

// P8.1: what an opcode hasn't is passed over, even if it may not be.
func TestPassedOver(t *testing.T) {
	for _, x := range samples() {
		r, y := laden(x.request.Opcode), x.request
		switch y.Opcode {
		case 1:
			r.Options = y.Options
		case 7:
			r.Text, r.Params = y.Text, y.Params
		case 9:
			r.Text = y.Text
		case 10:
			r.Id, r.Params = y.Id, y.Params
		case 11:
			r.Events = y.Events
		case 13:
			r.Kind, r.All, r.Params = y.Kind, y.All, y.Params
		case 15:
			r.Token = y.Token
		}
		puts(t, r, x.body)
	}
}

// P8.1: what a flag isn't there for is passed over, and what the other sort of statement has.
func TestPassedOverWithin(t *testing.T) {
	for _, x := range ahead() {
		x.request.Params = Params{Consistency: 1, Page: 7, State: wrong, Serial: 11, Time: 8}
		puts(t, x.request, join(x.body, []byte{0, 1, 0}))
	}
	puts(t, Request{Opcode: 13, All: []Statement{{Text: "a", Id: make([]byte, 65536)}}}, []byte{0, 0, 1, 0, 0, 0, 0, 1, 97, 0, 0, 0, 0, 0})
	puts(t, Request{Opcode: 13, All: []Statement{{Prepared: true, Text: "a", Id: []byte{4}}}}, []byte{0, 0, 1, 1, 0, 1, 4, 0, 0, 0, 0, 0})
	puts(t, Request{Opcode: 15, Token: api.Value{Kind: api.Null, Bytes: []byte{1}}}, []byte{255, 255, 255, 255})
}

// P8.1: the body is new memory, and what is handed in stays as it is.
func TestPutIsNewMemory(t *testing.T) {
	id := make([]byte, 2, 64)
	state := []byte{5, 6}
	r := Request{Opcode: 10, Id: id, Params: Params{Values: []api.Value{set(7)}, Names: []string{"n"}, Resumed: true, State: set(state...)}}
	b, _ := Put(r)
	was := bytes.Clone(b)
	id[0], state[0], r.Params.Values[0].Bytes[0], r.Params.Names[0] = 99, 98, 97, "m"
	if !bytes.Equal(b, was) {
		t.Error("the body follows the request:", b)
	}
	again, _ := Put(r)
	clear(again)
	if !bytes.Equal(id, []byte{99, 0}) || !bytes.Equal(id[:8], []byte{99, 0, 0, 0, 0, 0, 0, 0}) || r.Params.Values[0].Bytes[0] != 97 || state[0] != 98 {
		t.Error("the request follows the body:", r)
	}
	token := []byte{1, 2}
	b, _ = Put(Request{Opcode: 15, Token: set(token...)})
	clear(b)
	if !bytes.Equal(token, []byte{1, 2}) {
		t.Error("the token follows the body:", token)
	}
}

// P8.2: the request is new memory: it doesn't follow the body, nor the body it, nor one of its lists another.
func TestGetIsNewMemory(t *testing.T) {
	for _, x := range samples() {
		b := bytes.Clone(x.body)
		r, _ := Get(x.request.Opcode, b)
		for i := range b {
			b[i] ^= 255
		}
		if !same(r, x.request) {
			t.Error("a request of opcode", r.Opcode, "follows its body")
		}
		b = bytes.Clone(x.body)
		r, _ = Get(x.request.Opcode, b)
		for _, l := range lists(r) {
			was := bytes.Clone(l)
			for _, other := range lists(r) {
				_ = append(other, 77)
			}
			if !bytes.Equal(l, was) {
				t.Error("one list of a request of opcode", r.Opcode, "follows another")
			}
		}
		for _, l := range lists(r) {
			clear(l)
		}
		if !bytes.Equal(b, x.body) {
			t.Error("a body follows its request of opcode", r.Opcode)
		}
	}
}

// lists are all bytes that a request has.
func lists(r Request) [][]byte {
	all := [][]byte{r.Id, r.Token.Bytes, r.Params.State.Bytes}
	values := slices.Clone(r.Params.Values)
	for _, s := range r.All {
		all = append(all, s.Id)
		values = append(values, s.Values...)
	}
	for _, v := range values {
		all = append(all, v.Bytes)
	}
	return all
}

// maker makes requests by draws, the same ones each time.
type maker struct{ *rand.Rand }

func newMaker(seed uint64) maker {
	return maker{rand.New(rand.NewPCG(seed, 8))}
}

func (m maker) odd() bool { return m.IntN(2) == 1 }

func (m maker) bytes() []byte {
	b := make([]byte, m.IntN(5))
	for i := range b {
		b[i] = byte(m.IntN(256))
	}
	return b
}

func (m maker) value() api.Value {
	switch m.IntN(4) {
	case 0:
		return null
	case 1:
		return unset
	default:
		return set(m.bytes()...)
	}
}

// times makes a list of less than n items.
func times[T any](m maker, n int, item func() T) []T {
	var l []T
	for range m.IntN(n) {
		l = append(l, item())
	}
	return l
}

func (m maker) text() string { return string(m.bytes()) }

// params makes a run of just what its flags are there for.
func (m maker) params(batch bool) Params {
	p := Params{Consistency: uint16(m.IntN(11)), Serially: m.odd(), Timed: m.odd()}
	if p.Serially {
		p.Serial = uint16(m.IntN(11))
	}
	if p.Timed {
		p.Time = int64(m.Uint64())
	}
	if batch {
		return p
	}
	p.Values, p.Skip, p.Paged, p.Resumed = times(m, 4, m.value), m.odd(), m.odd(), m.odd()
	if m.odd() {
		for range p.Values {
			p.Names = append(p.Names, m.text())
		}
	}
	if p.Paged {
		p.Page = int32(m.Uint32())
	}
	if p.Resumed {
		p.State = m.value()
	}
	return p
}

func (m maker) statement() Statement {
	s := Statement{Prepared: m.odd(), Values: times(m, 4, m.value)}
	if s.Prepared {
		s.Id = m.bytes()
	} else {
		s.Text = m.text()
	}
	return s
}

// request makes one that has just what its opcode has.
func (m maker) request() Request {
	r := Request{Opcode: known[m.IntN(len(known))]}
	switch r.Opcode {
	case 1:
		r.Options = times(m, 4, func() api.Pair { return api.Pair{Key: m.text(), Value: m.text()} })
	case 7:
		r.Text, r.Params = m.text(), m.params(false)
	case 9:
		r.Text = m.text()
	case 10:
		r.Id, r.Params = m.bytes(), m.params(false)
	case 11:
		r.Events = times(m, 4, m.text)
	case 13:
		r.Kind, r.All, r.Params = byte(m.IntN(3)), times(m, 4, m.statement), m.params(true)
	case 15:
		r.Token = m.value()
	}
	return r
}

// P8.3: what is put is got, and what is got is put as it was.
func TestPutIsGot(t *testing.T) {
	m := newMaker(1)
	for range 20000 {
		r := m.request()
		b, e := Put(r)
		if e != api.OK {
			t.Fatalf("Put of %#v: %d", r, e)
		}
		gets(t, b, r)
		got, _ := Get(r.Opcode, b)
		puts(t, got, b)
	}
}

// P8.3: whatever bytes are got are put as they were; what isn't got is an error, and nothing beside it.
func TestGotIsPut(t *testing.T) {
	m := newMaker(2)
	got := 0
	for range 100000 {
		r := m.request()
		b, _ := Put(r)
		b = m.spoil(b)
		opcode := r.Opcode
		if m.IntN(4) == 0 {
			opcode = known[m.IntN(len(known))]
		}
		x, e := Get(opcode, b)
		if e != api.OK {
			getsNot(t, opcode, b, e)
			continue
		}
		got++
		puts(t, x, b)
	}
	if got < 10000 {
		t.Error("too few are got to tell:", got)
	}
}

// spoil changes a byte, takes some off, or lays one behind.
func (m maker) spoil(b []byte) []byte {
	b = bytes.Clone(b)
	for range m.IntN(3) {
		switch {
		case len(b) == 0 || m.IntN(8) == 0:
			b = append(b, byte(m.IntN(3)))
		case m.IntN(6) == 0:
			b = b[:m.IntN(len(b))]
		case m.odd():
			b[m.IntN(len(b))] ^= 1 << m.IntN(8)
		default:
			b[m.IntN(len(b))] = byte(m.IntN(256))
		}
	}
	return b
}
