package splitter

import (
	"bytes"
	"math"
	"slices"
	"testing"

	"signalbox/api"
	"signalbox/header"
)

// sample is a frame with the bytes that tell it.
type sample struct {
	frame Frame
	laid  []byte
}

// requests are frames of requests, of several bodies, flags, streams and opcodes.
func requests() []sample {
	return []sample{
		{Frame{header.Header{Version: 4, Stream: 3, Opcode: 7, Length: 2}, []byte{5, 6}}, []byte{4, 0, 0, 3, 7, 0, 0, 0, 2, 5, 6}},
		{Frame{header.Header{Version: 4, Opcode: 5}, nil}, []byte{4, 0, 0, 0, 5, 0, 0, 0, 0}},
		{Frame{header.Header{Version: 4, Flags: 6, Stream: -1, Opcode: 15, Length: 1}, []byte{255}}, []byte{4, 6, 255, 255, 15, 0, 0, 0, 1, 255}},
		// A body that looks like a frame is none.
		{Frame{header.Header{Version: 4, Flags: 2, Stream: 258, Opcode: 13, Length: 9}, []byte{4, 0, 0, 0, 5, 0, 0, 0, 0}}, []byte{4, 2, 1, 2, 13, 0, 0, 0, 9, 4, 0, 0, 0, 5, 0, 0, 0, 0}},
		// One that may be no header isn't, either.
		{Frame{header.Header{Version: 4, Flags: 4, Stream: 32767, Opcode: 1, Length: 12}, bytes.Repeat([]byte{255}, 12)}, slices.Concat([]byte{4, 4, 127, 255, 1, 0, 0, 0, 12}, bytes.Repeat([]byte{255}, 12))},
	}
}

// responses are frames of responses, likewise.
func responses() []sample {
	return []sample{
		{Frame{header.Header{Version: 132, Opcode: 2}, nil}, []byte{132, 0, 0, 0, 2, 0, 0, 0, 0}},
		{Frame{header.Header{Version: 132, Stream: 1, Opcode: 8, Length: 4}, []byte{0, 0, 0, 1}}, []byte{132, 0, 0, 1, 8, 0, 0, 0, 4, 0, 0, 0, 1}},
		{Frame{header.Header{Version: 132, Flags: 14, Stream: -32768, Opcode: 16, Length: 3}, []byte{1, 2, 3}}, []byte{132, 14, 128, 0, 16, 0, 0, 0, 3, 1, 2, 3}},
		{Frame{header.Header{Version: 132, Flags: 8, Stream: -1, Opcode: 12, Length: 1}, []byte{0}}, []byte{132, 8, 255, 255, 12, 0, 0, 0, 1, 0}},
		{Frame{header.Header{Version: 132, Stream: 256, Opcode: 0, Length: 10}, []byte{4, 0, 0, 3, 7, 0, 0, 0, 1, 9}}, []byte{132, 0, 1, 0, 0, 0, 0, 0, 10, 4, 0, 0, 3, 7, 0, 0, 0, 1, 9}},
	}
}

// direction is a version with frames of it.
type direction struct {
	version byte
	samples []sample
}

// directions are both.
func directions() []direction {
	return []direction{{4, requests()}, {132, responses()}}
}

// bytesOf are all bytes of samples, one behind the other.
func bytesOf(samples []sample) []byte {
	var b []byte
	for _, x := range samples {
		b = append(b, x.laid...)
	}
	return b
}

// framesOf are the frames of samples.
func framesOf(samples []sample) []Frame {
	var l []Frame
	for _, x := range samples {
		l = append(l, x.frame)
	}
	return l
}

// same tells whether two lists have the same frames, a nil body being an empty one.
func same(a, b []Frame) bool {
	return slices.EqualFunc(a, b, func(x, y Frame) bool {
		return x.Head == y.Head && bytes.Equal(x.Body, y.Body)
	})
}

// adds fails unless the splitter answers just this to b, keeps so many bytes, and leaves b, and what stands behind it, as it was.
func adds(t *testing.T, s *Splitter, b []byte, want []Frame, fault api.Errno, left int) {
	t.Helper()
	whole := b[:cap(b)]
	was := slices.Clone(whole)
	l, e := s.Add(b)
	if !same(l, want) || e != fault {
		t.Fatalf("Add(%v): %v, %d, want %v, %d", b, l, e, want, fault)
	}
	if n := s.Left(); n != left {
		t.Fatalf("Add(%v): %d are left, want %d", b, n, left)
	}
	if !bytes.Equal(whole, was) {
		t.Fatalf("Add changed %v to %v", was, whole)
	}
}

// A frame that may not be, with its error at a splitter of either version.
type fault struct {
	laid              []byte
	request, response api.Errno
}

// faults are headers that may not be, by each error, and such as are wrong by several; and, at either splitter, one of the other version.
func faults() []fault {
	return []fault{
		{[]byte{0, 0, 0, 0, 0, 0, 0, 0, 0}, api.ErrVersion, api.ErrVersion},
		{[]byte{3, 0, 0, 3, 7, 0, 0, 0, 0}, api.ErrVersion, api.ErrVersion},
		{[]byte{5, 0, 0, 3, 7, 0, 0, 0, 2}, api.ErrVersion, api.ErrVersion},
		{[]byte{133, 0, 0, 0, 2, 0, 0, 0, 0}, api.ErrVersion, api.ErrVersion},
		{[]byte{255, 255, 255, 255, 255, 255, 255, 255, 255}, api.ErrVersion, api.ErrVersion},
		{[]byte{4, 1, 0, 3, 7, 0, 0, 0, 0}, api.ErrFlags, api.ErrFlags},
		{[]byte{4, 8, 0, 3, 7, 0, 0, 0, 2}, api.ErrFlags, api.ErrFlags},
		{[]byte{4, 16, 0, 3, 8, 255, 0, 0, 0}, api.ErrFlags, api.ErrFlags},
		{[]byte{132, 1, 0, 0, 2, 0, 0, 0, 0}, api.ErrFlags, api.ErrFlags},
		{[]byte{132, 128, 0, 0, 2, 0, 0, 0, 1}, api.ErrFlags, api.ErrFlags},
		{[]byte{4, 0, 0, 3, 8, 0, 0, 0, 0}, api.ErrOpcode, api.ErrOpcode},
		{[]byte{4, 0, 0, 3, 4, 255, 255, 255, 255}, api.ErrOpcode, api.ErrOpcode},
		{[]byte{132, 0, 0, 0, 7, 0, 0, 0, 0}, api.ErrOpcode, api.ErrOpcode},
		{[]byte{132, 0, 0, 0, 17, 0, 0, 0, 1}, api.ErrOpcode, api.ErrOpcode},
		{[]byte{4, 0, 0, 3, 7, 0, 16, 0, 1}, api.ErrLong, api.ErrLong},
		{[]byte{4, 6, 0, 3, 7, 255, 255, 255, 255}, api.ErrLong, api.ErrLong},
		{[]byte{132, 0, 0, 0, 2, 0, 16, 0, 1}, api.ErrLong, api.ErrLong},
		{[]byte{132, 14, 0, 0, 2, 128, 0, 0, 0}, api.ErrLong, api.ErrLong},
		{[]byte{132, 0, 0, 0, 2, 0, 0, 0, 0}, api.ErrVersion, api.OK},
		{[]byte{132, 8, 0, 1, 8, 0, 0, 0, 4}, api.ErrVersion, api.OK},
		{[]byte{132, 0, 0, 1, 8, 0, 16, 0, 0}, api.ErrVersion, api.OK},
		{[]byte{4, 0, 0, 3, 7, 0, 0, 0, 0}, api.OK, api.ErrVersion},
		{[]byte{4, 6, 255, 255, 15, 0, 0, 0, 1}, api.OK, api.ErrVersion},
		{[]byte{4, 0, 0, 3, 7, 0, 16, 0, 0}, api.OK, api.ErrVersion},
	}
}

// at is the error at a splitter of this version.
func (f fault) at(version byte) api.Errno {
	if version == 4 {
		return f.request
	}
	return f.response
}

// eachFault does something with each header that a splitter of each version doesn't take.
func eachFault(do func(d direction, bad []byte, want api.Errno)) {
	for _, d := range directions() {
		for _, f := range faults() {
			if want := f.at(d.version); want != api.OK {
				do(d, f.laid, want)
			}
		}
	}
}

// P6.2: the chapter's example.
func TestExample(t *testing.T) {
	s := New(header.Request)
	adds(t, s, []byte{4, 0, 0, 3, 7, 0, 0, 0, 2, 5}, nil, api.OK, 10)
	adds(t, s, []byte{6}, []Frame{{header.Header{Version: 4, Stream: 3, Opcode: 7, Length: 2}, []byte{5, 6}}}, api.OK, 0)
}

// P6.1: the header and the body, of both versions.
func TestJoin(t *testing.T) {
	for _, d := range directions() {
		for _, x := range d.samples {
			if b, e := Join(x.frame); !bytes.Equal(b, x.laid) || e != api.OK {
				t.Errorf("Join(%v): %v, %d, want %v, 0", x.frame, b, e, x.laid)
			}
		}
	}
	empty := Frame{header.Header{Version: 4, Opcode: 5}, []byte{}}
	if b, e := Join(empty); !bytes.Equal(b, []byte{4, 0, 0, 0, 5, 0, 0, 0, 0}) || e != api.OK {
		t.Error(b, e)
	}
}

// joinsNot fails unless the frame is refused with this error, and nothing beside it.
func joinsNot(t *testing.T, f Frame, want api.Errno) {
	t.Helper()
	if b, e := Join(f); len(b) != 0 || e != want {
		t.Errorf("Join(%v, %d bytes): %d bytes, %d, want %d", f.Head, len(f.Body), len(b), e, want)
	}
}

// P6.1: a Length that is another one than the body's is told, whichever of them is more.
func TestJoinLength(t *testing.T) {
	for _, d := range directions() {
		for _, x := range d.samples {
			n := x.frame.Head.Length
			for _, length := range []uint32{0, 1, n + 1, n - 1, n + 256, n + 65536, n + 1<<20, n + 1<<31, 1048576, 1048577, math.MaxInt32, math.MaxUint32} {
				if length == n {
					continue
				}
				f := x.frame
				f.Head.Length = length
				joinsNot(t, f, api.ErrBody)
			}
			f := x.frame
			f.Body = slices.Concat(f.Body, []byte{0})
			joinsNot(t, f, api.ErrBody)
		}
	}
	for length := range uint32(30) {
		for n := range uint32(30) {
			f := Frame{header.Header{Version: 132, Stream: 7, Opcode: 8, Length: length}, make([]byte, n)}
			if length != n {
				joinsNot(t, f, api.ErrBody)
			} else if b, e := Join(f); len(b) != int(n)+9 || e != api.OK {
				t.Error(length, n, b, e)
			}
		}
	}
}

// P6.1: each of the header's errors, of a body that is as long as Length says; where it isn't, that is told ahead of them.
func TestJoinErrors(t *testing.T) {
	for _, x := range []struct {
		head header.Header
		want api.Errno
	}{
		{header.Header{Version: 0, Opcode: 7}, api.ErrVersion},
		{header.Header{Version: 5, Flags: 255, Opcode: 255}, api.ErrVersion},
		{header.Header{Version: 4, Flags: 1, Opcode: 7}, api.ErrFlags},
		{header.Header{Version: 4, Flags: 8, Opcode: 8}, api.ErrFlags},
		{header.Header{Version: 132, Flags: 16, Opcode: 8}, api.ErrFlags},
		{header.Header{Version: 4, Opcode: 8}, api.ErrOpcode},
		{header.Header{Version: 132, Opcode: 7}, api.ErrOpcode},
	} {
		for _, n := range []uint32{0, 1, 9, 1048577} {
			f := Frame{x.head, make([]byte, n)}
			f.Head.Length = n
			joinsNot(t, f, x.want)
			f.Head.Length = n + 1
			joinsNot(t, f, api.ErrBody)
		}
	}
}

// P6.1: the longest body is joined, one of a byte more isn't.
func TestJoinLongest(t *testing.T) {
	for _, head := range []header.Header{{Version: 4, Opcode: 7, Length: 1048576}, {Version: 132, Opcode: 8, Length: 1048576}} {
		body := bytes.Repeat([]byte{7}, 1048577)
		b, e := Join(Frame{head, body[:1048576]})
		if len(b) != 1048585 || !bytes.Equal(b[5:9], []byte{0, 16, 0, 0}) || !bytes.Equal(b[9:], body[:1048576]) || e != api.OK {
			t.Error(len(b), e)
		}
		joinsNot(t, Frame{head, body}, api.ErrBody)
		head.Length = 1048577
		joinsNot(t, Frame{head, body}, api.ErrLong)
		joinsNot(t, Frame{head, body[:1048576]}, api.ErrBody)
	}
}

// P6.1: what is joined is new memory; the body, and what stands behind it, stay as they are.
func TestJoinIsNewMemory(t *testing.T) {
	whole := []byte{1, 2, 3, 4, 5}
	f := Frame{header.Header{Version: 4, Opcode: 7, Length: 3}, whole[:3]}
	b, _ := Join(f)
	c, _ := Join(f)
	for i := range b {
		b[i] = 255
	}
	if !bytes.Equal(whole, []byte{1, 2, 3, 4, 5}) || !bytes.Equal(c, []byte{4, 0, 0, 0, 7, 0, 0, 0, 3, 1, 2, 3}) {
		t.Error(whole, c)
	}
	whole[0] = 9
	if c[9] != 1 {
		t.Error(c)
	}
}

// P6.2: a new splitter keeps nothing and has no error, of whatever version; of another one than the two no header is right.
func TestNew(t *testing.T) {
	for version := range 256 {
		s := New(byte(version))
		if s == nil || s.Left() != 0 {
			t.Fatal(version, s)
		}
		adds(t, s, nil, nil, api.OK, 0)
		if version == 4 || version == 132 {
			continue
		}
		for _, laid := range [][]byte{{4, 0, 0, 0, 5, 0, 0, 0, 0}, {132, 0, 0, 0, 2, 0, 0, 0, 0}, {byte(version), 0, 0, 0, 5, 0, 0, 0, 0}, {byte(version), 0, 0, 0, 2, 0, 0, 0, 0}} {
			s := New(byte(version))
			adds(t, s, laid[:8], nil, api.OK, 8)
			adds(t, s, laid[8:], nil, api.ErrVersion, 0)
		}
	}
}

// P6.2: each splitter has its own bytes and its own error.
func TestTwoSplitters(t *testing.T) {
	a, b := New(4), New(4)
	x := requests()[0]
	adds(t, a, x.laid[:10], nil, api.OK, 10)
	adds(t, b, x.laid[:5], nil, api.OK, 5)
	adds(t, b, []byte{0, 0, 0, 0}, []Frame{{Head: header.Header{Version: 4, Stream: 3, Opcode: 7}}}, api.OK, 0)
	adds(t, b, make([]byte, 9), nil, api.ErrVersion, 0)
	adds(t, a, x.laid[10:], []Frame{x.frame}, api.OK, 0)
}

// P6.2: one frame in a call, by one splitter one after the other, and by one of its own.
func TestOneFrame(t *testing.T) {
	for _, d := range directions() {
		s := New(d.version)
		for _, x := range d.samples {
			adds(t, s, x.laid, []Frame{x.frame}, api.OK, 0)
			adds(t, New(d.version), x.laid, []Frame{x.frame}, api.OK, 0)
		}
	}
}

// P6.2: every opcode and flags that may be, with bodies of several lengths.
func TestEveryKind(t *testing.T) {
	for _, k := range []struct {
		version        byte
		opcodes, flags []byte
	}{
		{4, []byte{1, 5, 7, 9, 10, 11, 13, 15}, []byte{0, 2, 4, 6}},
		{132, []byte{0, 2, 3, 6, 8, 12, 14, 16}, []byte{0, 2, 4, 6, 8, 10, 12, 14}},
	} {
		s := New(k.version)
		for _, opcode := range k.opcodes {
			for _, flags := range k.flags {
				for _, n := range []int{0, 1, 8, 9, 10, 255, 256, 65536} {
					body := bytes.Repeat([]byte{byte(n + 1)}, n)
					b := append([]byte{k.version, flags, 1, 2, opcode, 0, byte(n >> 16), byte(n >> 8), byte(n)}, body...)
					want := Frame{header.Header{Version: k.version, Flags: flags, Stream: 258, Opcode: opcode, Length: uint32(n)}, body}
					adds(t, s, b, []Frame{want}, api.OK, 0)
				}
			}
		}
	}
}

// P6.2: several frames in a call come in order, those that are twice there too; some of a further one wait.
func TestSeveralFrames(t *testing.T) {
	for _, d := range directions() {
		for n := range len(d.samples) + 1 {
			adds(t, New(d.version), bytesOf(d.samples[:n]), framesOf(d.samples[:n]), api.OK, 0)
			for _, last := range d.samples {
				for more := range last.laid {
					s := New(d.version)
					adds(t, s, slices.Concat(bytesOf(d.samples[:n]), last.laid[:more]), framesOf(d.samples[:n]), api.OK, more)
					adds(t, s, last.laid[more:], []Frame{last.frame}, api.OK, 0)
				}
			}
		}
		again := slices.Concat(d.samples, d.samples, d.samples)
		adds(t, New(d.version), bytesOf(again), framesOf(again), api.OK, 0)
	}
}

// P6.2: frames of no body: a header alone is one, and many of them are many.
func TestNoBody(t *testing.T) {
	laid := []byte{132, 0, 255, 255, 2, 0, 0, 0, 0}
	want := Frame{Head: header.Header{Version: 132, Stream: -1, Opcode: 2}}
	for _, n := range []int{1, 2, 3, 1000, 100000} {
		s := New(132)
		adds(t, s, bytes.Repeat(laid, n)[:9*n-1], slices.Repeat([]Frame{want}, n-1), api.OK, 8)
		adds(t, s, []byte{0}, []Frame{want}, api.OK, 0)
		adds(t, s, bytes.Repeat(laid, n), slices.Repeat([]Frame{want}, n), api.OK, 0)
	}
}

// P6.2: empty pieces do nothing, at each place of a frame; nil and empty are one.
func TestEmptyPieces(t *testing.T) {
	for _, d := range directions() {
		for _, x := range d.samples {
			s := New(d.version)
			for i := range x.laid {
				adds(t, s, nil, nil, api.OK, i)
				adds(t, s, []byte{}, nil, api.OK, i)
				adds(t, s, x.laid[:0], nil, api.OK, i)
				if i < len(x.laid)-1 {
					adds(t, s, x.laid[i:i+1], nil, api.OK, i+1)
				}
			}
			adds(t, s, x.laid[len(x.laid)-1:], []Frame{x.frame}, api.OK, 0)
			adds(t, s, nil, nil, api.OK, 0)
		}
	}
}

// P6.2: eight bytes wait, whatever they are; with the ninth they are a header, and its body is waited for.
func TestEightAndNine(t *testing.T) {
	for _, b := range []byte{0, 4, 132, 255} {
		for n := range 9 {
			adds(t, New(4), bytes.Repeat([]byte{b}, n), nil, api.OK, n)
			adds(t, New(132), bytes.Repeat([]byte{b}, n), nil, api.OK, n)
		}
	}
	s := New(4)
	adds(t, s, []byte{4, 0, 0, 3, 7, 0, 0, 0}, nil, api.OK, 8)
	adds(t, s, []byte{1}, nil, api.OK, 9)
	adds(t, s, []byte{4}, []Frame{{header.Header{Version: 4, Stream: 3, Opcode: 7, Length: 1}, []byte{4}}}, api.OK, 0)
}

// piecewise hands bytes in in pieces of so many, and fails unless, behind each, just those frames were told that are whole by then.
func piecewise(t *testing.T, version byte, samples []sample, size int) {
	t.Helper()
	s := New(version)
	b := bytesOf(samples)
	came, gone, next := 0, 0, 0
	for piece := range slices.Chunk(b, size) {
		came += len(piece)
		var want []Frame
		for next < len(samples) && gone+len(samples[next].laid) <= came {
			want = append(want, samples[next].frame)
			gone += len(samples[next].laid)
			next++
		}
		adds(t, s, piece, want, api.OK, came-gone)
	}
	if next != len(samples) || s.Left() != 0 {
		t.Error(next, "of", len(samples), "frames came;", s.Left(), "are left")
	}
}

// P6.2, P6.3: pieces of every size, of one frame and of all.
func TestPiecesOfEverySize(t *testing.T) {
	for _, d := range directions() {
		all := slices.Concat(d.samples, d.samples)
		for size := 1; size <= len(bytesOf(all))+1; size++ {
			piecewise(t, d.version, all, size)
			for i := range d.samples {
				piecewise(t, d.version, d.samples[i:i+1], size)
			}
		}
	}
}

// P6.2, P6.3: all frames in three pieces, cut at every two places.
func TestTwoCuts(t *testing.T) {
	for _, d := range directions() {
		b, want := bytesOf(d.samples), framesOf(d.samples)
		for i := range len(b) + 1 {
			for j := i; j <= len(b); j++ {
				s := New(d.version)
				first, e1 := s.Add(b[:i])
				second, e2 := s.Add(b[i:j])
				third, e3 := s.Add(b[j:])
				if e1 != api.OK || e2 != api.OK || e3 != api.OK || s.Left() != 0 || !same(slices.Concat(first, second, third), want) {
					t.Fatal(i, j, e1, e2, e3, s.Left(), first, second, third)
				}
			}
		}
	}
}

// longest is a frame of the longest body.
func longest() sample {
	body := make([]byte, 1048576)
	for i := range body {
		body[i] = byte(i*7 + i>>8)
	}
	head := header.Header{Version: 132, Stream: 5, Opcode: 8, Length: 1048576}
	return sample{Frame{head, body}, slices.Concat([]byte{132, 0, 0, 5, 8, 0, 16, 0, 0}, body)}
}

// P6.2, P6.3: a frame of the longest body, in one piece, less one byte, with one more, and in pieces; never more than it less one byte waits.
func TestLongest(t *testing.T) {
	x := longest()
	n := len(x.laid)
	adds(t, New(132), x.laid, []Frame{x.frame}, api.OK, 0)
	s := New(132)
	adds(t, s, x.laid[:n-1], nil, api.OK, 1048584)
	adds(t, s, nil, nil, api.OK, 1048584)
	adds(t, s, []byte{x.laid[n-1], 132}, []Frame{x.frame}, api.OK, 1)
	adds(t, s, x.laid[1:], []Frame{x.frame}, api.OK, 0)
	for _, size := range []int{1000, 65535, 65536, n - 1} {
		piecewise(t, 132, []sample{x, responses()[0], x}, size)
	}
	s = New(132)
	for i := range n - 1 {
		if l, e := s.Add(x.laid[i : i+1]); len(l) != 0 || e != api.OK || s.Left() != i+1 {
			t.Fatal(i, len(l), e, s.Left())
		}
	}
	adds(t, s, x.laid[n-1:], []Frame{x.frame}, api.OK, 0)
}

// P6.2: a header that may not be, alone: its error at the ninth byte, ahead of any body; nothing is kept.
func TestErrorAlone(t *testing.T) {
	eachFault(func(d direction, bad []byte, want api.Errno) {
		s := New(d.version)
		adds(t, s, bad[:8], nil, api.OK, 8)
		adds(t, s, bad[8:], nil, want, 0)
		adds(t, New(d.version), bad, nil, want, 0)
		adds(t, New(d.version), slices.Concat(bad, d.samples[0].laid), nil, want, 0)
		s = New(d.version)
		for i := range 8 {
			adds(t, s, bad[i:i+1], nil, api.OK, i+1)
		}
		adds(t, s, slices.Concat(bad[8:], d.samples[0].laid), nil, want, 0)
	})
}

// P6.2: behind frames that may be, the error is told together with them, and what stands behind it is no frame any more.
func TestErrorBehindFrames(t *testing.T) {
	eachFault(func(d direction, bad []byte, want api.Errno) {
		for n := range len(d.samples) + 1 {
			good, frames := bytesOf(d.samples[:n]), framesOf(d.samples[:n])
			for _, tail := range [][]byte{nil, {0}, d.samples[0].laid, bytesOf(d.samples), bytes.Repeat([]byte{255}, 100)} {
				adds(t, New(d.version), slices.Concat(good, bad, tail), frames, want, 0)
			}
			s := New(d.version)
			adds(t, s, slices.Concat(good, bad[:8]), frames, api.OK, 8)
			adds(t, s, bad[8:], nil, want, 0)
			if n == 0 {
				continue
			}
			last := len(good) - 1
			s = New(d.version)
			adds(t, s, good[:last], framesOf(d.samples[:n-1]), api.OK, len(d.samples[n-1].laid)-1)
			adds(t, s, slices.Concat(good[last:], bad), framesOf(d.samples[n-1:n]), want, 0)
		}
	})
}

// P6.2: behind an error every call tells it, and no frames, whatever comes; nothing is kept.
func TestErrorStays(t *testing.T) {
	eachFault(func(d direction, bad []byte, want api.Errno) {
		s := New(d.version)
		adds(t, s, slices.Concat(d.samples[0].laid, bad), framesOf(d.samples[:1]), want, 0)
		adds(t, s, nil, nil, want, 0)
		adds(t, s, []byte{d.version}, nil, want, 0)
		for _, x := range d.samples {
			adds(t, s, x.laid, nil, want, 0)
			adds(t, s, x.laid[:len(x.laid)-1], nil, want, 0)
		}
		for _, f := range faults() {
			adds(t, s, f.laid, nil, want, 0)
		}
		adds(t, s, nil, nil, want, 0)
	})
}

// P6.2: of nil.
func TestNil(t *testing.T) {
	var s *Splitter
	for range 2 {
		for _, b := range [][]byte{nil, {}, {0}, {4, 0, 0, 0, 5, 0, 0, 0, 0}, make([]byte, 100)} {
			adds(t, s, b, nil, api.ErrArg, 0)
		}
	}
}

// spoil changes each byte of a body, and puts more behind it, in its own memory if there is room.
func spoil(body []byte) {
	body = body[:cap(body)]
	for i := range body {
		body[i] = ^body[i]
	}
	_ = append(body[:0], bytes.Repeat([]byte{170}, 40)...)
}

// P6.2: frames are new memory: whoever changes one changes no other, nor what came, nor what is kept.
func TestChangedFrames(t *testing.T) {
	for _, d := range directions() {
		for _, last := range d.samples {
			for more := range last.laid {
				for i := range d.samples {
					b := slices.Concat(bytesOf(d.samples), last.laid[:more])
					was := slices.Clone(b)
					s := New(d.version)
					l, e := s.Add(b)
					if len(l) != len(d.samples) || e != api.OK {
						t.Fatal(l, e)
					}
					spoil(l[i].Body)
					want := framesOf(d.samples)
					if !same(l[:i], want[:i]) || !same(l[i+1:], want[i+1:]) || !bytes.Equal(b, was) {
						t.Fatal(i, l, b)
					}
					for _, f := range l {
						spoil(f.Body)
					}
					clear(l)
					adds(t, s, last.laid[more:], []Frame{last.frame}, api.OK, 0)
				}
			}
		}
	}
}

// P6.2: what was handed in isn't kept: changed behind the call, it changes neither frames nor what waits.
func TestChangedBytes(t *testing.T) {
	for _, d := range directions() {
		b, want := bytesOf(d.samples), framesOf(d.samples)
		for size := 1; size <= len(b); size++ {
			s := New(d.version)
			var got []Frame
			// All pieces are handed in in one memory, which is used again.
			piece := make([]byte, size)
			for part := range slices.Chunk(b, size) {
				l, e := s.Add(piece[:copy(piece, part)])
				if e != api.OK {
					t.Fatal(size, e)
				}
				got = append(got, l...)
				spoil(piece)
			}
			if !same(got, want) || s.Left() != 0 {
				t.Fatal(size, got, s.Left())
			}
		}
	}
}

// P6.2: frames of an earlier call stay as they are, whatever comes behind, an error too.
func TestEarlierFrames(t *testing.T) {
	for _, d := range directions() {
		s := New(d.version)
		first, _ := s.Add(slices.Concat(bytesOf(d.samples), []byte{d.version}))
		second, _ := s.Add(slices.Concat(d.samples[1].laid[1:], bytesOf(d.samples)))
		_, e := s.Add(bytes.Repeat([]byte{255}, 200))
		want := framesOf(d.samples)
		if !same(first, want) || !same(second, slices.Concat(want[1:2], want)) || e != api.ErrVersion {
			t.Error(first, second, e)
		}
	}
}

// No more is kept than is needed: what waits behind a frame that went off doesn't hold the memory that this one waited in.
func TestMemoryIsLetGo(t *testing.T) {
	x, next := longest(), responses()[1]
	s := New(132)
	for piece := range slices.Chunk(x.laid[:len(x.laid)-1], 1000) {
		s.Add(piece)
	}
	adds(t, s, []byte{x.laid[len(x.laid)-1], next.laid[0]}, []Frame{x.frame}, api.OK, 1)
	adds(t, s, next.laid[1:2], nil, api.OK, 2)
	if room := cap(s.kept); room > 1000 {
		t.Error("two bytes wait in a memory of", room)
	}
	adds(t, s, next.laid[2:], []Frame{next.frame}, api.OK, 0)
}

// draws are numbers that look like chance, and are the same each time.
type draws uint32

// below is the next one, below n.
func (d *draws) below(n int) int {
	*d = *d*1664525 + 1013904223
	return int(uint32(*d)>>16) % n
}

// stream are bytes of some frames, behind which there may be a header that may not be, and others; with the frames, the error, and how many bytes there are up to the end of it.
func (d *draws) stream(k direction) ([]byte, []Frame, api.Errno, int) {
	var b []byte
	var frames []Frame
	for range d.below(8) {
		x := k.samples[d.below(len(k.samples))]
		b = append(b, x.laid...)
		frames = append(frames, x.frame)
	}
	if d.below(2) == 0 {
		return b, frames, api.OK, len(b)
	}
	all := faults()
	f := all[d.below(len(all))]
	for f.at(k.version) == api.OK {
		f = all[d.below(len(all))]
	}
	b = append(b, f.laid...)
	end := len(b)
	for range d.below(30) {
		b = append(b, byte(d.below(256)))
	}
	return b, frames, f.at(k.version), end
}

// P6.3: in whatever pieces bytes come, the frames and the error are the same, and what came is what was told and what is kept; fewer are kept than a frame has.
func TestWhateverPieces(t *testing.T) {
	d := draws(6)
	for range 20000 {
		k := directions()[d.below(2)]
		b, want, fault, end := d.stream(k)
		most := 1 + d.below(len(b)+2)
		s := New(k.version)
		var got []Frame
		for at := 0; at < len(b); {
			n := min(d.below(most+1), len(b)-at)
			l, e := s.Add(b[at : at+n])
			at += n
			got = append(got, l...)
			if fault != api.OK && at >= end {
				if e != fault || s.Left() != 0 {
					t.Fatal(b, at, e, fault, s.Left())
				}
				continue
			}
			told := joined(t, got)
			if e != api.OK || s.Left() != at-len(told) || !bytes.Equal(told, b[:len(told)]) || s.Left() >= 21 {
				t.Fatal(b, at, e, s.Left(), told)
			}
		}
		if !same(got, want) {
			t.Fatal(b, got, want)
		}
		adds(t, s, nil, nil, fault, 0)
	}
}

// joined are the frames' bytes, one behind the other.
func joined(t *testing.T, frames []Frame) []byte {
	t.Helper()
	var b []byte
	for _, f := range frames {
		x, e := Join(f)
		if e != api.OK {
			t.Fatal(f, e)
		}
		b = append(b, x...)
	}
	return b
}
