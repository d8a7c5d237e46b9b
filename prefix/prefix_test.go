package prefix

import (
	"bytes"
	"slices"
	"strings"
	"testing"

	"signalbox/api"
	"signalbox/header"
)

// The flags that stand for something here, each alone.
const (
	tracing = 2
	payload = 4
	warning = 8
)

// number is a tracing number.
var number = []byte{16, 15, 14, 13, 12, 11, 10, 9, 8, 7, 6, 5, 4, 3, 2, 1}

// tails are what may stand behind.
var tails = [][]byte{nil, {0}, {255}, {0, 1, 0, 1, 97}, bytes.Repeat([]byte{0}, 40)}

// sample is a prefix with its flags and the bytes that tell it.
type sample struct {
	prefix Prefix
	flags  byte
	laid   []byte
}

// alone are prefixes of one part each: some of tracing, some of warnings, some of payloads, in this order.
func alone() [3][]sample {
	return [3][]sample{
		{
			{Prefix{Tracing: number}, tracing, number},
			{Prefix{Tracing: make([]byte, 16)}, tracing, make([]byte, 16)},
			{Prefix{Tracing: bytes.Repeat([]byte{255}, 16)}, tracing, bytes.Repeat([]byte{255}, 16)},
		},
		{
			{Prefix{Warnings: []string{"a"}}, warning, []byte{0, 1, 0, 1, 97}},
			{Prefix{Warnings: []string{""}}, warning, []byte{0, 1, 0, 0}},
			{Prefix{Warnings: []string{"ab", "", "ab"}}, warning, []byte{0, 3, 0, 2, 97, 98, 0, 0, 0, 2, 97, 98}},
			{Prefix{Warnings: []string{"\xff\x00", "\n"}}, warning, []byte{0, 2, 0, 2, 255, 0, 0, 1, 10}},
		},
		{
			{Prefix{Payload: []api.Entry{{Key: "k"}}}, payload, []byte{0, 1, 0, 1, 107, 255, 255, 255, 255}},
			{Prefix{Payload: []api.Entry{{Key: "", Value: api.Value{Kind: api.Unset}}}}, payload, []byte{0, 1, 0, 0, 255, 255, 255, 254}},
			{Prefix{Payload: []api.Entry{{Key: "k", Value: set()}}}, payload, []byte{0, 1, 0, 1, 107, 0, 0, 0, 0}},
			{Prefix{Payload: []api.Entry{{Key: "z", Value: set(1, 2)}, {Key: "a"}, {Key: "z", Value: set(0)}}}, payload, []byte{0, 3, 0, 1, 122, 0, 0, 0, 2, 1, 2, 0, 1, 97, 255, 255, 255, 255, 0, 1, 122, 0, 0, 0, 1, 0}},
		},
	}
}

// set is a value that has these bytes.
func set(b ...byte) api.Value {
	return api.Value{Kind: api.Set, Bytes: b}
}

// and is a sample of the parts of both, those of y behind.
func (x sample) and(y sample) sample {
	return sample{
		Prefix{
			slices.Concat(x.prefix.Tracing, y.prefix.Tracing),
			slices.Concat(x.prefix.Warnings, y.prefix.Warnings),
			slices.Concat(x.prefix.Payload, y.prefix.Payload),
		},
		x.flags | y.flags,
		slices.Concat(x.laid, y.laid),
	}
}

// samples are prefixes of no part, of each alone, of each two, and of all three.
func samples() []sample {
	all := []sample{{}}
	for _, parts := range alone() {
		for _, x := range slices.Clone(all) {
			for _, y := range parts {
				all = append(all, x.and(y))
			}
		}
	}
	return all
}

// same tells whether two prefixes have the same parts, nil and empty ones being alike.
func same(a, b Prefix) bool {
	return bytes.Equal(a.Tracing, b.Tracing) && slices.Equal(a.Warnings, b.Warnings) && slices.EqualFunc(a.Payload, b.Payload, func(x, y api.Entry) bool {
		return x.Key == y.Key && x.Value.Kind == y.Value.Kind && bytes.Equal(x.Value.Bytes, y.Value.Bytes)
	})
}

// reader is Response or Request.
type reader func(flags byte, b []byte) (Prefix, []byte, api.Errno)

// reads fails unless the prefix is just read, whatever is behind; what is behind is of the bytes themselves, and they stay as they are.
func reads(t *testing.T, read reader, flags byte, b []byte, want Prefix) {
	t.Helper()
	for _, tail := range tails {
		whole := slices.Concat(b, tail)
		was := bytes.Clone(whole)
		p, rest, e := read(flags, whole)
		if !same(p, want) || !bytes.Equal(rest, tail) || e != api.OK {
			t.Fatalf("flags %d, %v: %v, %v, %d, want %v, %v, 0", flags, whole, p, rest, e, want, tail)
		}
		if len(rest) > 0 && &rest[0] != &whole[len(b)] {
			t.Fatal("what is behind is not of the bytes themselves")
		}
		if !bytes.Equal(whole, was) {
			t.Fatalf("%v is changed to %v", was, whole)
		}
	}
}

// readsNot fails unless reading is this error, and nothing beside it.
func readsNot(t *testing.T, read reader, flags byte, b []byte, want api.Errno) {
	t.Helper()
	p, rest, e := read(flags, b)
	if !same(p, Prefix{}) || len(rest) != 0 || e != want {
		t.Fatalf("flags %d, %v: %v, %v, %d, want %d alone", flags, b, p, rest, e, want)
	}
}

// putsNot fails unless putting is this error, and nothing beside it.
func putsNot(t *testing.T, p Prefix, want api.Errno) {
	t.Helper()
	if b, flags, e := Put(p); len(b) != 0 || flags != 0 || e != want {
		t.Fatalf("%d bytes of tracing, %d warnings, %d entries: %d bytes, %d, %d, want %d alone", len(p.Tracing), len(p.Warnings), len(p.Payload), len(b), flags, e, want)
	}
}

// eachIdle does something with each of the flags that stand for nothing in the mask's sense: all that have no bit of it.
func eachIdle(mask byte, do func(flags byte)) {
	for flags := range 256 {
		if byte(flags)&mask == 0 {
			do(byte(flags))
		}
	}
}

// P7.2: the chapter's example; and P7.1: it is read.
func TestExample(t *testing.T) {
	b, flags, e := Put(Prefix{Warnings: []string{"a"}})
	if !bytes.Equal(b, []byte{0, 1, 0, 1, 97}) || flags != header.Warning || e != api.OK {
		t.Error(b, flags, e)
	}
	reads(t, Response, header.Warning, b, Prefix{Warnings: []string{"a"}})
}

// P7.1: each part alone, each two, and all three, of a response.
func TestResponse(t *testing.T) {
	for _, x := range samples() {
		reads(t, Response, x.flags, x.laid, x.prefix)
	}
}

// P7.1: Tracing stands first, then Warnings, then Payload: byte by byte.
func TestResponseOrder(t *testing.T) {
	b := slices.Concat(number, []byte{0, 1, 0, 1, 119}, []byte{0, 1, 0, 1, 107, 0, 0, 0, 1, 5})
	reads(t, Response, 14, b, Prefix{number, []string{"w"}, []api.Entry{{Key: "k", Value: set(5)}}})
	reads(t, Response, 12, b[16:], Prefix{Warnings: []string{"w"}, Payload: []api.Entry{{Key: "k", Value: set(5)}}})
	reads(t, Response, 10, b[:21], Prefix{Tracing: number, Warnings: []string{"w"}})
	reads(t, Response, 6, slices.Concat(number, b[21:]), Prefix{Tracing: number, Payload: []api.Entry{{Key: "k", Value: set(5)}}})
}

// P7.1: flags that stand for nothing here are passed over, whatever others there are.
func TestResponseOtherFlags(t *testing.T) {
	for _, x := range samples() {
		eachIdle(tracing|warning|payload, func(flags byte) {
			p, rest, e := Response(flags|x.flags, append(bytes.Clone(x.laid), 7))
			if !same(p, x.prefix) || !bytes.Equal(rest, []byte{7}) || e != api.OK {
				t.Fatal(flags|x.flags, x.laid, p, rest, e)
			}
		})
	}
}

// P7.1: with no flag that stands for something nothing is read, not even of bytes that look like it.
func TestNoFlag(t *testing.T) {
	for _, x := range samples() {
		eachIdle(tracing|warning|payload, func(flags byte) {
			reads(t, Response, flags, nil, Prefix{})
			p, rest, e := Response(flags, x.laid)
			if !same(p, Prefix{}) || !bytes.Equal(rest, x.laid) || e != api.OK {
				t.Fatal(flags, x.laid, p, rest, e)
			}
		})
		eachIdle(payload, func(flags byte) {
			p, rest, e := Request(flags, x.laid)
			if !same(p, Prefix{}) || !bytes.Equal(rest, x.laid) || e != api.OK {
				t.Fatal(flags, x.laid, p, rest, e)
			}
		})
	}
	eachIdle(payload, func(flags byte) {
		reads(t, Request, flags, nil, Prefix{})
	})
}

// P7.1: of a request the payload alone is read, whatever other flags there are, those of tracing and warnings too.
func TestRequest(t *testing.T) {
	for _, x := range alone()[2] {
		eachIdle(payload, func(flags byte) {
			reads(t, Request, flags|payload, x.laid, x.prefix)
		})
	}
}

// P7.1: a request's payload stands at the beginning, not behind a tracing number or warnings.
func TestRequestAtTheBeginning(t *testing.T) {
	b := slices.Concat([]byte{0, 0}, number, []byte{0, 1, 0, 1, 97})
	for _, flags := range []byte{payload, payload | tracing, payload | warning, payload | tracing | warning, 255} {
		p, rest, e := Request(flags, b)
		if !same(p, Prefix{}) || !bytes.Equal(rest, b[2:]) || e != api.OK {
			t.Error(flags, p, rest, e)
		}
	}
	for _, flags := range []byte{0, tracing, warning, tracing | warning, 251} {
		for n := range 20 {
			p, rest, e := Request(flags, b[:n])
			if !same(p, Prefix{}) || !bytes.Equal(rest, b[:n]) || e != api.OK {
				t.Error(flags, n, p, rest, e)
			}
		}
	}
}

// P7.1: parts that have no items are read as empty ones, and what is behind is read on.
func TestReadEmpty(t *testing.T) {
	reads(t, Response, warning, []byte{0, 0}, Prefix{})
	reads(t, Response, payload, []byte{0, 0}, Prefix{})
	reads(t, Request, payload, []byte{0, 0}, Prefix{})
	reads(t, Response, warning|payload, []byte{0, 0, 0, 0}, Prefix{})
	reads(t, Response, tracing|warning|payload, slices.Concat(number, []byte{0, 0, 0, 0}), Prefix{Tracing: number})
	reads(t, Response, warning|payload, []byte{0, 0, 0, 1, 0, 1, 107, 255, 255, 255, 255}, Prefix{Payload: []api.Entry{{Key: "k"}}})
	reads(t, Response, warning|payload, []byte{0, 1, 0, 1, 97, 0, 0}, Prefix{Warnings: []string{"a"}})
}

// P7.1: cut at any place, each prefix ends too early.
func TestCut(t *testing.T) {
	for _, x := range samples() {
		for n := range x.laid {
			readsNot(t, Response, x.flags, x.laid[:n], api.ErrShort)
			readsNot(t, Response, x.flags|^byte(tracing|warning|payload), x.laid[:n:n], api.ErrShort)
		}
	}
	for _, x := range alone()[2] {
		for n := range x.laid {
			readsNot(t, Request, payload, x.laid[:n], api.ErrShort)
			readsNot(t, Request, 255, x.laid[:n:n], api.ErrShort)
		}
	}
}

// badPayloads are such whose first value may not be, and whose second one may not.
func badPayloads() [][]byte {
	return [][]byte{
		{0, 1, 0, 1, 107, 255, 255, 255, 253},
		{0, 1, 0, 0, 128, 0, 0, 0},
		{0, 2, 0, 0, 255, 255, 255, 255, 0, 0, 255, 255, 255, 253, 0},
	}
}

// P7.1: a value that may not be is told, of a request and of a response, behind whatever else was read.
func TestReadForm(t *testing.T) {
	for _, bad := range badPayloads() {
		for _, tail := range tails {
			b := slices.Concat(bad, tail)
			readsNot(t, Request, payload, b, api.ErrForm)
			readsNot(t, Request, 255, b, api.ErrForm)
			readsNot(t, Response, payload, b, api.ErrForm)
			readsNot(t, Response, payload|tracing, slices.Concat(number, b), api.ErrForm)
			readsNot(t, Response, payload|warning, slices.Concat([]byte{0, 1, 0, 1, 97}, b), api.ErrForm)
			readsNot(t, Response, 255, slices.Concat(number, []byte{0, 1, 0, 1, 97}, b), api.ErrForm)
		}
	}
}

// P7.1: the first error is told: bytes that end in the number or in the warnings end too early, though as a payload they may not be.
func TestFirstError(t *testing.T) {
	bad := badPayloads()[0]
	readsNot(t, Response, payload, bad, api.ErrForm)
	readsNot(t, Response, tracing|payload, bad, api.ErrShort)
	// As warnings these are a text of one byte, and a payload of which there is one byte too few to tell how many.
	readsNot(t, Response, warning|payload, bad[:6], api.ErrShort)
	// As warnings these tell of more texts than there are.
	more := []byte{0, 2, 0, 0, 255, 255, 255, 253, 0}
	readsNot(t, Response, payload, more, api.ErrForm)
	readsNot(t, Response, warning|payload, more, api.ErrShort)
	readsNot(t, Response, tracing|warning|payload, slices.Concat(number, more), api.ErrShort)
}

// P7.1: more items are told of than there are, as many as can be.
func TestReadTooMany(t *testing.T) {
	for _, flags := range []byte{warning, payload, warning | payload} {
		for _, b := range [][]byte{{255, 255}, {255, 255, 255, 255}, {255, 255, 0, 0}, {0, 1, 255, 255}, {0, 1, 255, 255, 0}} {
			readsNot(t, Response, flags, b, api.ErrShort)
		}
	}
	readsNot(t, Request, payload, []byte{255, 255, 0, 0}, api.ErrShort)
	readsNot(t, Request, payload, []byte{0, 1, 0, 0, 127, 255, 255, 255, 0}, api.ErrShort)
}

// P7.2: each part alone, each two, and all three.
func TestPut(t *testing.T) {
	for _, x := range samples() {
		b, flags, e := Put(x.prefix)
		if !bytes.Equal(b, x.laid) || flags != x.flags || e != api.OK {
			t.Errorf("%v: %v, %d, %d, want %v, %d, 0", x.prefix, b, flags, e, x.laid, x.flags)
		}
	}
}

// P7.2: empty parts, nil or not, are neither put nor told by a flag.
func TestPutEmpty(t *testing.T) {
	for _, x := range samples() {
		p := x.prefix
		if len(p.Tracing) == 0 {
			p.Tracing = []byte{}
		}
		if len(p.Warnings) == 0 {
			p.Warnings = []string{}
		}
		if len(p.Payload) == 0 {
			p.Payload = []api.Entry{}
		}
		b, flags, e := Put(p)
		if !bytes.Equal(b, x.laid) || flags != x.flags || e != api.OK {
			t.Errorf("%v: %v, %d, %d", p, b, flags, e)
		}
	}
}

// P7.2: a tracing number has 16 bytes, or none; how many there are is told ahead of all else.
func TestPutTracing(t *testing.T) {
	bad := []Prefix{{Warnings: []string{strings.Repeat("q", 65536)}}, {Payload: []api.Entry{{Value: api.Value{Kind: 3}}}}}
	for n := range 300 {
		if n == 0 || n == 16 {
			continue
		}
		for _, x := range samples() {
			p := x.prefix
			p.Tracing = bytes.Repeat([]byte{1}, n)
			putsNot(t, p, api.ErrArg)
		}
		for _, p := range bad {
			p.Tracing = make([]byte, n)
			putsNot(t, p, api.ErrArg)
		}
	}
	for _, n := range []int{256 + 16, 65536, 65536 + 16} {
		putsNot(t, Prefix{Tracing: make([]byte, n)}, api.ErrArg)
	}
}

// P7.2: warnings and payloads that may not be put, whatever else there is; that of warnings is told ahead.
func TestPutErrors(t *testing.T) {
	long, kindless := strings.Repeat("q", 65536), api.Value{Kind: 3}
	badWarnings := [][]string{{long}, {"a", long}, slices.Repeat([]string{""}, 65536)}
	badEntries := []struct {
		entries []api.Entry
		want    api.Errno
	}{
		{[]api.Entry{{Value: kindless}}, api.ErrArg},
		{[]api.Entry{{Key: "a"}, {Value: api.Value{Kind: -1}}}, api.ErrArg},
		{[]api.Entry{{Key: long}}, api.ErrLong},
		{[]api.Entry{{Key: long, Value: kindless}}, api.ErrLong},
		{[]api.Entry{{Value: kindless}, {Key: long}}, api.ErrArg},
		{slices.Repeat([]api.Entry{{}}, 65536), api.ErrLong},
	}
	for _, number := range [][]byte{nil, number} {
		for _, w := range badWarnings {
			putsNot(t, Prefix{Tracing: number, Warnings: w}, api.ErrLong)
			putsNot(t, Prefix{Tracing: number, Warnings: w, Payload: []api.Entry{{Key: "k"}}}, api.ErrLong)
			for _, x := range badEntries {
				putsNot(t, Prefix{Tracing: number, Warnings: w, Payload: x.entries}, api.ErrLong)
			}
		}
		for _, x := range badEntries {
			putsNot(t, Prefix{Tracing: number, Payload: x.entries}, x.want)
			putsNot(t, Prefix{Tracing: number, Warnings: []string{"a"}, Payload: x.entries}, x.want)
		}
	}
}

// P7.2, P7.1: as many items, and texts as long, as can be.
func TestMost(t *testing.T) {
	text := strings.Repeat("q", 65535)
	for _, p := range []Prefix{
		{Tracing: number, Warnings: slices.Repeat([]string{"w"}, 65535), Payload: slices.Repeat([]api.Entry{{Key: "k", Value: set(1)}}, 65535)},
		{Warnings: []string{text}, Payload: []api.Entry{{Key: text, Value: set([]byte(text + text)...)}}},
	} {
		b, flags, e := Put(p)
		if e != api.OK {
			t.Fatal(e)
		}
		got, rest, e := Response(flags, append(b, 9))
		if !same(got, p) || !bytes.Equal(rest, []byte{9}) || e != api.OK {
			t.Error(len(b), flags, len(rest), e)
		}
	}
}

// spoil changes all that a prefix has.
func spoil(p Prefix) {
	spoilBytes(p.Tracing)
	for i := range p.Payload {
		spoilBytes(p.Payload[i].Value.Bytes)
	}
	clear(p.Warnings[:cap(p.Warnings)])
	clear(p.Payload[:cap(p.Payload)])
}

// spoilBytes changes each byte, and those that there is room for.
func spoilBytes(b []byte) {
	b = b[:cap(b)]
	for i := range b {
		b[i] = ^b[i]
	}
}

// P7.1: what is read is new memory: whoever changes it, or the bytes that it was read of, changes nothing else.
func TestReadIsNewMemory(t *testing.T) {
	for _, x := range samples() {
		b := append(bytes.Clone(x.laid), 7, 8)
		was := bytes.Clone(b)
		first, rest, _ := Response(x.flags, b)
		second, _, _ := Response(x.flags, b)
		spoil(first)
		if !bytes.Equal(b, was) || !bytes.Equal(rest, []byte{7, 8}) || !same(second, x.prefix) {
			t.Fatal(b, rest, second)
		}
		spoilBytes(b)
		if !same(second, x.prefix) {
			t.Fatal(second)
		}
	}
	for _, x := range alone()[2] {
		b := bytes.Clone(x.laid)
		p, _, _ := Request(payload, b)
		spoilBytes(b)
		if !same(p, x.prefix) {
			t.Fatal(p)
		}
	}
}

// P7.2: what is put is new memory, and what was handed in, with what stands behind it, stays as it is.
func TestPutIsNewMemory(t *testing.T) {
	room := append(bytes.Clone(number), 1, 2, 3, 4)
	was := bytes.Clone(room)
	for _, x := range samples() {
		p := x.prefix
		if len(p.Tracing) > 0 {
			p.Tracing = room[:16]
			x.laid = slices.Concat(number, x.laid[16:])
		}
		first, _, _ := Put(p)
		second, _, _ := Put(p)
		spoilBytes(first)
		if !bytes.Equal(room, was) || !bytes.Equal(second, x.laid) {
			t.Fatal(room, second)
		}
	}
}

// P7.2: what was put stays as it is, though what was handed in is changed behind the call.
func TestPutKeepsNothing(t *testing.T) {
	for i := range samples() {
		x := samples()[i]
		x.prefix.Tracing = bytes.Clone(x.prefix.Tracing)
		want := bytes.Clone(x.laid)
		b, _, _ := Put(x.prefix)
		spoil(x.prefix)
		if !bytes.Equal(b, want) {
			t.Fatal(b, want)
		}
	}
}

// draws are numbers that look like chance, and are the same each time.
type draws uint32

// below is the next one, below n.
func (d *draws) below(n int) int {
	*d = *d*1664525 + 1013904223
	return int(uint32(*d)>>16) % n
}

// bytes are some bytes, fewer than n.
func (d *draws) bytes(n int) []byte {
	b := make([]byte, d.below(n))
	for i := range b {
		b[i] = byte(d.below(256))
	}
	return b
}

// prefix is one of whatever parts.
func (d *draws) prefix() Prefix {
	var p Prefix
	if d.below(2) == 0 {
		p.Tracing = make([]byte, 16)
		copy(p.Tracing, d.bytes(17))
	}
	for range d.below(4) {
		p.Warnings = append(p.Warnings, string(d.bytes(20)))
	}
	for range d.below(4) {
		v := api.Value{Kind: [3]int{api.Null, api.Unset, api.Set}[d.below(3)]}
		if v.Kind == api.Set {
			v.Bytes = d.bytes(300)
		}
		p.Payload = append(p.Payload, api.Entry{Key: string(d.bytes(20)), Value: v})
	}
	return p
}

// P7.3: what is put is read of a response with these flags, with what is behind; of a request, if it has a payload alone.
func TestPutAndRead(t *testing.T) {
	d := draws(7)
	for range 20000 {
		p, tail := d.prefix(), d.bytes(30)
		b, flags, e := Put(p)
		if e != api.OK {
			t.Fatal(p, e)
		}
		whole := slices.Concat(b, tail)
		got, rest, e := Response(flags, whole)
		if !same(got, p) || !bytes.Equal(rest, tail) || e != api.OK {
			t.Fatal(p, got, rest, tail, e)
		}
		if len(p.Tracing)+len(p.Warnings) == 0 {
			got, rest, e = Request(flags, whole)
			if !same(got, p) || !bytes.Equal(rest, tail) || e != api.OK {
				t.Fatal(p, got, rest, tail, e)
			}
		}
	}
}

// Rule 1: whatever bytes and flags come, reading ends, and answers a prefix that may be put, or an error alone.
func TestWhateverBytes(t *testing.T) {
	d := draws(70)
	for range 50000 {
		b := d.bytes(60)
		for i := range b {
			// Small numbers tell of lengths that fit now and then.
			if d.below(3) > 0 {
				b[i] %= 3
			}
		}
		flags := byte(d.below(256))
		for _, read := range []reader{Response, Request} {
			p, rest, e := read(flags, b)
			if e != api.OK {
				readsNot(t, read, flags, b, e)
				continue
			}
			if _, _, e := Put(p); e != api.OK || !bytes.HasSuffix(b, rest) {
				t.Fatal(flags, b, p, rest, e)
			}
		}
	}
}
