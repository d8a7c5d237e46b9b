package header

import (
	"bytes"
	"math"
	"slices"
	"testing"

	"signalbox/api"
)

// The two versions, by their numbers.
const (
	asks    = 4
	answers = 132
)

// The opcodes of requests and of responses, as the document lists them.
var (
	requests  = []byte{1, 5, 7, 9, 10, 11, 13, 15}
	responses = []byte{0, 2, 3, 6, 8, 12, 14, 16}
)

// The flags that requests and responses may have: all that are made of Tracing 2 and Payload 4, and of responses of Warning 8, too.
var (
	requestFlags  = []byte{0, 2, 4, 6}
	responseFlags = []byte{0, 2, 4, 6, 8, 10, 12, 14}
)

// A stream's edges, and some within, with the two bytes that tell it.
var streams = map[int16][2]byte{
	0: {0, 0}, 1: {0, 1}, 3: {0, 3}, 127: {0, 127}, 128: {0, 128}, 255: {0, 255}, 256: {1, 0}, 258: {1, 2}, 32767: {127, 255},
	-1: {255, 255}, -2: {255, 254}, -128: {255, 128}, -255: {255, 1}, -256: {255, 0}, -257: {254, 255}, -32767: {128, 1}, -32768: {128, 0},
}

// A length's edges that may be, and some within, with the four bytes that tell it.
var lengths = map[uint32][4]byte{
	0: {0, 0, 0, 0}, 1: {0, 0, 0, 1}, 5: {0, 0, 0, 5}, 255: {0, 0, 0, 255}, 256: {0, 0, 1, 0}, 65535: {0, 0, 255, 255}, 65536: {0, 1, 0, 0},
	66051: {0, 1, 2, 3}, 1048575: {0, 15, 255, 255}, 1048576: {0, 16, 0, 0},
}

// Lengths that may not be, with the four bytes that tell them.
var tooLong = map[uint32][4]byte{
	1048577: {0, 16, 0, 1}, 1048832: {0, 16, 1, 0}, 2097152: {0, 32, 0, 0}, 16777216: {1, 0, 0, 0}, 16777221: {1, 0, 0, 5},
	math.MaxInt32: {127, 255, 255, 255}, math.MaxInt32 + 1: {128, 0, 0, 0}, math.MaxUint32: {255, 255, 255, 255},
}

// kind is a version with the opcodes and flags that it may have.
type kind struct {
	version        byte
	opcodes, flags []byte
}

// kinds are both.
func kinds() []kind {
	return []kind{{asks, requests, requestFlags}, {answers, responses, responseFlags}}
}

// wanted is what the document tells of a header, asked of the lists above.
func wanted(h Header) api.Errno {
	for _, k := range kinds() {
		if k.version != h.Version {
			continue
		}
		switch {
		case !slices.Contains(k.flags, h.Flags):
			return api.ErrFlags
		case !slices.Contains(k.opcodes, h.Opcode):
			return api.ErrOpcode
		case h.Length > 1048576:
			return api.ErrLong
		}
		return api.OK
	}
	return api.ErrVersion
}

// laid are the nine bytes of a header, whether it may be or not.
func laid(h Header) []byte {
	s, l := uint16(h.Stream), h.Length
	return []byte{h.Version, h.Flags, byte(s >> 8), byte(s), h.Opcode, byte(l >> 24), byte(l >> 16), byte(l >> 8), byte(l)}
}

// may fails unless the header may be, is put as just these bytes, and is got of them, whatever is behind.
func may(t *testing.T, h Header, want []byte) {
	t.Helper()
	if e := Check(h); e != api.OK {
		t.Errorf("Check(%v): %d, want 0", h, e)
	}
	if b, e := Put(h); !bytes.Equal(b, want) || e != api.OK {
		t.Errorf("Put(%v): %v, %d, want %v, 0", h, b, e, want)
	}
	for _, tail := range [][]byte{nil, {0}, {255}, want, bytes.Repeat([]byte{4}, 100)} {
		b := slices.Concat(want, tail)
		was := slices.Clone(b)
		if got, e := Get(b); got != h || e != api.OK {
			t.Errorf("Get(%v): %v, %d, want %v, 0", b, got, e, h)
		}
		if !bytes.Equal(b, was) {
			t.Errorf("Get changed %v to %v", was, b)
		}
	}
}

// mayNot fails unless all three tell this error of the header, or of its bytes, and nothing else.
func mayNot(t *testing.T, h Header, want api.Errno) {
	t.Helper()
	if e := Check(h); e != want {
		t.Errorf("Check(%v): %d, want %d", h, e, want)
	}
	if b, e := Put(h); len(b) != 0 || e != want {
		t.Errorf("Put(%v): %v, %d, want %d", h, b, e, want)
	}
	for _, tail := range [][]byte{nil, {0}, {4, 0, 0, 3, 7, 0, 0, 0, 5}} {
		b := slices.Concat(laid(h), tail)
		if got, e := Get(b); got != (Header{}) || e != want {
			t.Errorf("Get(%v): %v, %d, want %d", b, got, e, want)
		}
	}
}

// The chapter's numbers, which other layers are told by.
func TestNumbers(t *testing.T) {
	if Size != 9 || Request != 4 || Response != 132 {
		t.Error(Size, Request, Response)
	}
	if Compressed != 1 || Tracing != 2 || Payload != 4 || Warning != 8 || Beta != 16 {
		t.Error(Compressed, Tracing, Payload, Warning, Beta)
	}
}

// P5.1, P5.2: the chapter's example, and a header each byte of which is another.
func TestExamples(t *testing.T) {
	may(t, Header{Version: Request, Stream: 3, Opcode: api.Query, Length: 5}, []byte{4, 0, 0, 3, 7, 0, 0, 0, 5})
	may(t, Header{Version: Response, Flags: Tracing | Warning, Stream: 258, Opcode: api.Result, Length: 66051}, []byte{132, 10, 1, 2, 8, 0, 1, 2, 3})
	may(t, Header{Version: Response, Flags: Warning, Stream: -1, Opcode: api.Event, Length: 1}, []byte{132, 8, 255, 255, 12, 0, 0, 0, 1})
}

// P5.1, P5.2: every opcode of both kinds with all flags that may be, all edges of streams and of lengths.
func TestAllThatMayBe(t *testing.T) {
	for _, k := range kinds() {
		for _, opcode := range k.opcodes {
			for _, flags := range k.flags {
				for stream, s := range streams {
					for length, l := range lengths {
						h := Header{Version: k.version, Flags: flags, Stream: stream, Opcode: opcode, Length: length}
						may(t, h, []byte{k.version, flags, s[0], s[1], opcode, l[0], l[1], l[2], l[3]})
					}
				}
			}
		}
	}
}

// P5.1: every Version, with opcodes of both kinds.
func TestVersions(t *testing.T) {
	for v := range 256 {
		if v == asks || v == answers {
			continue
		}
		for opcode := range 256 {
			mayNot(t, Header{Version: byte(v), Stream: 3, Opcode: byte(opcode), Length: 5}, api.ErrVersion)
		}
	}
	mayNot(t, Header{}, api.ErrVersion)
}

// P5.1: every Flags of both kinds, with each opcode that may be.
func TestFlags(t *testing.T) {
	for _, k := range kinds() {
		for _, opcode := range k.opcodes {
			for flags := range 256 {
				h := Header{Version: k.version, Flags: byte(flags), Stream: 3, Opcode: opcode, Length: 5}
				if slices.Contains(k.flags, byte(flags)) {
					may(t, h, laid(h))
				} else {
					mayNot(t, h, api.ErrFlags)
				}
			}
		}
	}
}

// P5.1: Warning is a response's alone; Compressed and Beta are nobody's.
func TestSingleFlags(t *testing.T) {
	ask := Header{Version: Request, Opcode: api.Query}
	answer := Header{Version: Response, Opcode: api.Result}
	for flag, errs := range map[byte][2]api.Errno{
		Compressed: {api.ErrFlags, api.ErrFlags},
		Tracing:    {api.OK, api.OK},
		Payload:    {api.OK, api.OK},
		Warning:    {api.ErrFlags, api.OK},
		Beta:       {api.ErrFlags, api.ErrFlags},
		32:         {api.ErrFlags, api.ErrFlags},
		64:         {api.ErrFlags, api.ErrFlags},
		128:        {api.ErrFlags, api.ErrFlags},
	} {
		for _, more := range []byte{0, Tracing, Payload, Tracing | Payload} {
			ask.Flags, answer.Flags = flag|more, flag|more
			if e := Check(ask); e != errs[0] {
				t.Error("request", ask.Flags, e)
			}
			if e := Check(answer); e != errs[1] {
				t.Error("response", answer.Flags, e)
			}
		}
	}
}

// P5.1: every Opcode of both kinds, with each flags that may be; those of the other kind are none.
func TestOpcodes(t *testing.T) {
	for _, k := range kinds() {
		for opcode := range 256 {
			for _, flags := range k.flags {
				h := Header{Version: k.version, Flags: flags, Stream: 3, Opcode: byte(opcode), Length: 5}
				if slices.Contains(k.opcodes, byte(opcode)) {
					may(t, h, laid(h))
				} else {
					mayNot(t, h, api.ErrOpcode)
				}
			}
		}
	}
	for _, opcode := range []byte{api.Startup, api.Options, api.Query, api.Prepare, api.Execute, api.Register, api.Batch, api.AuthResponse} {
		mayNot(t, Header{Version: Response, Opcode: opcode}, api.ErrOpcode)
	}
	for _, opcode := range []byte{api.Error, api.Ready, api.Authenticate, api.Supported, api.Result, api.Event, api.AuthChallenge, api.AuthSuccess} {
		mayNot(t, Header{Version: Request, Opcode: opcode}, api.ErrOpcode)
	}
}

// P5.1: a Length above 1048576 is too long, of every opcode, with every flags and on every stream.
func TestLengths(t *testing.T) {
	for _, k := range kinds() {
		for _, opcode := range k.opcodes {
			for _, flags := range k.flags {
				for stream := range streams {
					for length, l := range tooLong {
						h := Header{Version: k.version, Flags: flags, Stream: stream, Opcode: opcode, Length: length}
						mayNot(t, h, api.ErrLong)
						if b := laid(h); [4]byte(b[5:]) != l {
							t.Fatal(b, l)
						}
					}
				}
			}
		}
	}
}

// P5.1: of two and more wrong fields the first one in the order Version, Flags, Opcode, Length is told.
func TestFirstError(t *testing.T) {
	for bits := range 16 {
		for _, k := range kinds() {
			h := Header{Version: k.version, Flags: Tracing, Stream: -3, Opcode: k.opcodes[3], Length: 1048576}
			want := api.OK
			if bits&8 != 0 {
				h.Length, want = 1048577, api.ErrLong
			}
			if bits&4 != 0 {
				h.Opcode, want = 4, api.ErrOpcode
			}
			if bits&2 != 0 {
				h.Flags, want = Tracing|Compressed, api.ErrFlags
			}
			if bits&1 != 0 {
				h.Version, want = k.version+1, api.ErrVersion
			}
			if want == api.OK {
				may(t, h, laid(h))
			} else {
				mayNot(t, h, want)
			}
		}
	}
	mayNot(t, Header{Version: Request, Flags: Warning, Opcode: api.Result, Length: math.MaxUint32}, api.ErrFlags)
	mayNot(t, Header{Version: Response, Flags: Warning, Opcode: api.Query, Length: math.MaxUint32}, api.ErrOpcode)
	mayNot(t, Header{Version: 5, Flags: Beta, Opcode: 255, Length: math.MaxUint32}, api.ErrVersion)
	mayNot(t, Header{Version: 255, Flags: 255, Stream: -1, Opcode: 255, Length: math.MaxUint32}, api.ErrVersion)
}

// P5.1: every Version with every Flags and every Opcode, at both sides of the longest Length.
func TestCheckAll(t *testing.T) {
	wrong := 0
	for _, length := range []uint32{1048576, 1048577} {
		for version := range 256 {
			for flags := range 256 {
				for opcode := range 256 {
					h := Header{Version: byte(version), Flags: byte(flags), Opcode: byte(opcode), Length: length}
					// Asking the lists is slow, so that it is done where a version may be.
					want := api.ErrVersion
					if version == asks || version == answers {
						want = wanted(h)
					}
					if Check(h) != want {
						wrong++
					}
				}
			}
		}
	}
	if wrong != 0 {
		t.Error(wrong, "headers are told wrong")
	}
}

// P5.2: fewer than nine bytes, of whatever header, are too short, even where what is there may not be.
func TestGetShort(t *testing.T) {
	for _, whole := range [][]byte{
		{4, 0, 0, 3, 7, 0, 0, 0, 5},
		{132, 14, 255, 255, 16, 0, 16, 0, 0},
		{0, 0, 0, 0, 0, 0, 0, 0, 0},
		{4, 255, 0, 0, 7, 0, 0, 0, 0},
		{4, 0, 0, 0, 8, 0, 0, 0, 0},
		{4, 0, 0, 0, 7, 255, 255, 255, 255},
		{255, 255, 255, 255, 255, 255, 255, 255, 255},
	} {
		for n := range 9 {
			// What stands behind in the same memory isn't b's.
			if h, e := Get(whole[:n]); h != (Header{}) || e != api.ErrShort {
				t.Error(whole[:n], h, e)
			}
			if h, e := Get(slices.Clone(whole[:n])); h != (Header{}) || e != api.ErrShort {
				t.Error(whole[:n], h, e)
			}
		}
		if _, e := Get(whole); e == api.ErrShort {
			t.Error(whole, e)
		}
	}
	if h, e := Get(nil); h != (Header{}) || e != api.ErrShort {
		t.Error(h, e)
	}
}

// P5.2: what is put is new memory, of nine bytes.
func TestPutIsNewMemory(t *testing.T) {
	h := Header{Version: Request, Stream: 3, Opcode: api.Query, Length: 5}
	b, _ := Put(h)
	for i := range b {
		b[i] = 255
	}
	c, _ := Put(h)
	if len(b) != Size || !bytes.Equal(c, []byte{4, 0, 0, 3, 7, 0, 0, 0, 5}) {
		t.Error(b, c)
	}
}

// P5.3: every stream, put and got.
func TestStreams(t *testing.T) {
	for s := math.MinInt16; s <= math.MaxInt16; s++ {
		n := s
		if n < 0 {
			n += 65536
		}
		h := Header{Version: Response, Flags: Payload, Stream: int16(s), Opcode: api.Event, Length: 9}
		want := []byte{132, 4, byte(n / 256), byte(n % 256), 12, 0, 0, 0, 9}
		if b, e := Put(h); !bytes.Equal(b, want) || e != api.OK {
			t.Error(s, b, e)
		}
		if got, e := Get(want); got != h || e != api.OK {
			t.Error(s, got, e)
		}
	}
}

// P5.3: every length that may be, put and got; the first ones above it are neither.
func TestEveryLength(t *testing.T) {
	for n := range uint32(1048576 + 1000) {
		h := Header{Version: Request, Flags: Tracing, Stream: -2, Opcode: api.Batch, Length: n}
		bytesOf := []byte{4, 2, 255, 254, 13, byte(n / 16777216), byte(n / 65536), byte(n / 256), byte(n)}
		b, putE := Put(h)
		got, getE := Get(bytesOf)
		if n > 1048576 {
			if len(b) != 0 || putE != api.ErrLong || got != (Header{}) || getE != api.ErrLong {
				t.Fatal(n, b, putE, got, getE)
			}
		} else if !bytes.Equal(b, bytesOf) || putE != api.OK || got != h || getE != api.OK {
			t.Fatal(n, b, putE, got, getE)
		}
	}
}

// draws are numbers that look like chance, and are the same each time.
type draws uint32

// below is the next one, below n.
func (d *draws) below(n int) int {
	*d = *d*1664525 + 1013904223
	return int(uint32(*d)>>16) % n
}

// bytesOf are nine bytes or some more; most of them may be a header's, and some of them aren't.
func (d *draws) bytesOf() []byte {
	k := kinds()[d.below(2)]
	b := []byte{k.version, k.flags[d.below(len(k.flags))], byte(d.below(256)), byte(d.below(256)), k.opcodes[d.below(8)]}
	b = append(b, 0, byte(d.below(18)), byte(d.below(256)), byte(d.below(256)))
	for range d.below(4) {
		b = append(b, byte(d.below(256)))
	}
	if d.below(2) == 0 {
		b[d.below(Size)] = byte(d.below(256))
	}
	return b
}

// P5.2, P5.3: whatever bytes there are, what is got of them is put as it was; else the error is the header's own.
func TestGotIsPut(t *testing.T) {
	d := draws(5)
	got := 0
	for range 200000 {
		b := d.bytesOf()
		length := uint32(b[5])<<24 | uint32(b[6])<<16 | uint32(b[7])<<8 | uint32(b[8])
		want := wanted(Header{Version: b[0], Flags: b[1], Opcode: b[4], Length: length})
		h, e := Get(b)
		if e != want {
			t.Fatal(b, e, want)
		}
		if e != api.OK {
			if h != (Header{}) {
				t.Fatal(b, h)
			}
			continue
		}
		got++
		if again, e := Put(h); !bytes.Equal(again, b[:Size]) || e != api.OK {
			t.Fatal(b, again, e)
		}
	}
	if got < 50000 {
		t.Error("only", got, "headers were got")
	}
}
