package reply

import (
	"bytes"
	"encoding/binary"
	"fmt"
	"math"
	"math/rand/v2"
	"slices"
	"strings"
	"testing"

	"signalbox/api"
)

// known are the opcodes that replies have.
var known = []byte{0, 2, 3, 6, 8, 12, 14, 16}

// fuller are the codes of errors that have more than a text.
var fuller = []uint32{4096, 4352, 4608, 4864, 5120, 5376, 9216, 9472}

// plain are codes that have nothing more: all others that are named, and some that are not.
var plain = []uint32{0, 10, 256, 4097, 4098, 4099, 8192, 8448, 8704, 8960, 1, 4095, 4100, 4351, 4353, 4607, 4609, 4863, 4865, 5119, 5121, 5375, 5377, 9215, 9217, 9471, 9473, 65536 + 4096, 1 << 31, math.MaxUint32}

// The words that the document names.
var (
	dones    = []string{"CREATED", "UPDATED", "DROPPED"}
	targets  = []string{"KEYSPACE", "TABLE", "TYPE", "FUNCTION", "AGGREGATE"}
	kinds    = []string{"TOPOLOGY_CHANGE", "STATUS_CHANGE", "SCHEMA_CHANGE"}
	moves    = []string{"NEW_NODE", "REMOVED_NODE", "MOVED_NODE"}
	statuses = []string{"UP", "DOWN"}
)

// sample is a reply with the bytes of its body.
type sample struct {
	reply Reply
	body  []byte
}

func set(b ...byte) api.Value {
	return api.Value{Kind: api.Set, Bytes: b}
}

// Values of a kind that there is, and of one that there isn't.
var (
	null  = api.Value{Kind: api.Null}
	unset = api.Value{Kind: api.Unset}
	wrong = api.Value{Kind: 3}
)

// long is a text that no short can tell, tooLong an Id that none can.
var (
	long    = strings.Repeat("q", 65536)
	tooLong = make([]byte, 65536)
)

// host is an address, and hostLaid its bytes.
var (
	host     = api.Inet{Addr: []byte{1, 2, 3, 4}, Port: 9042}
	hostLaid = []byte{4, 1, 2, 3, 4, 0, 0, 35, 82}
)

// join are bytes one behind the other, in new memory.
func join(parts ...[]byte) []byte {
	return slices.Concat(parts...)
}

// text are the bytes of texts, one behind the other.
func text(l ...string) []byte {
	var b []byte
	for _, s := range l {
		b = append(b, byte(len(s)>>8), byte(len(s)))
		b = append(b, s...)
	}
	return b
}

// four are the four bytes of a number.
func four(x uint32) []byte {
	return binary.BigEndian.AppendUint32(nil, x)
}

// samples are ordinary replies of every opcode.
func samples() []sample {
	return slices.Concat(simpleSamples(), faultSamples(), resultSamples(), eventSamples())
}

// simpleSamples are those of opcodes that have one part at most.
func simpleSamples() []sample {
	return []sample{
		{Reply{Opcode: 2}, nil},
		{Reply{Opcode: 3}, []byte{0, 0}},
		{Reply{Opcode: 3, Text: "\xff\x00a"}, []byte{0, 3, 255, 0, 97}},
		{Reply{Opcode: 6}, []byte{0, 0}},
		{Reply{Opcode: 6, Support: []api.Multi{{Key: "k", Values: []string{"x", ""}}, {}, {Key: "k"}}},
			[]byte{0, 3, 0, 1, 107, 0, 2, 0, 1, 120, 0, 0, 0, 0, 0, 0, 0, 1, 107, 0, 0}},
		{Reply{Opcode: 14, Token: null}, []byte{255, 255, 255, 255}},
		{Reply{Opcode: 14, Token: unset}, []byte{255, 255, 255, 254}},
		{Reply{Opcode: 14, Token: set()}, []byte{0, 0, 0, 0}},
		{Reply{Opcode: 14, Token: set(0, 255)}, []byte{0, 0, 0, 2, 0, 255}},
		{Reply{Opcode: 16, Token: null}, []byte{255, 255, 255, 255}},
		{Reply{Opcode: 16, Token: unset}, []byte{255, 255, 255, 254}},
		{Reply{Opcode: 16, Token: set()}, []byte{0, 0, 0, 0}},
		{Reply{Opcode: 16, Token: set(7)}, []byte{0, 0, 0, 1, 7}},
	}
}

// faultSamples are errors of each code, byte by byte.
func faultSamples() []sample {
	var l []sample
	for _, c := range []struct {
		f Fault
		b []byte
	}{
		{Fault{}, []byte{0, 0, 0, 0, 0, 0}},
		{Fault{Code: 4096, Text: "t", Level: 4, Received: 1, Needed: 2}, []byte{0, 0, 16, 0, 0, 1, 116, 0, 4, 0, 0, 0, 2, 0, 0, 0, 1}},
		{Fault{Code: 4352, Text: "t", Level: 1, Received: 3, Needed: 4, Write: "SIMPLE"}, []byte{0, 0, 17, 0, 0, 1, 116, 0, 1, 0, 0, 0, 3, 0, 0, 0, 4, 0, 6, 83, 73, 77, 80, 76, 69}},
		{Fault{Code: 4608, Text: "t", Level: 2, Received: 5, Needed: 6, Data: 1}, []byte{0, 0, 18, 0, 0, 1, 116, 0, 2, 0, 0, 0, 5, 0, 0, 0, 6, 1}},
		{Fault{Code: 4864, Text: "t", Level: 3, Received: 7, Needed: 8, Failures: 9, Data: 255}, []byte{0, 0, 19, 0, 0, 1, 116, 0, 3, 0, 0, 0, 7, 0, 0, 0, 8, 0, 0, 0, 9, 255}},
		{Fault{Code: 5120, Text: "t", Space: "s", Name: "n", Args: []string{"a", "", "a"}}, []byte{0, 0, 20, 0, 0, 1, 116, 0, 1, 115, 0, 1, 110, 0, 3, 0, 1, 97, 0, 0, 0, 1, 97}},
		{Fault{Code: 5376, Text: "t", Level: 10, Received: 1, Needed: 2, Failures: 3, Write: "w"}, []byte{0, 0, 21, 0, 0, 1, 116, 0, 10, 0, 0, 0, 1, 0, 0, 0, 2, 0, 0, 0, 3, 0, 1, 119}},
		{Fault{Code: 9216, Text: "t", Space: "s", Name: "n"}, []byte{0, 0, 36, 0, 0, 1, 116, 0, 1, 115, 0, 1, 110}},
		{Fault{Code: 9472, Text: "t", Id: []byte{8, 9}}, []byte{0, 0, 37, 0, 0, 1, 116, 0, 2, 8, 9}},
	} {
		l = append(l, sample{Reply{Fault: c.f}, c.b})
	}
	for _, code := range plain {
		l = append(l, sample{Reply{Fault: Fault{Code: code, Text: "ab"}}, join(four(code), []byte{0, 2, 97, 98})})
	}
	// All that a code has may be empty.
	for i, code := range fuller {
		n := []int{10, 12, 11, 15, 6, 16, 4, 2}[i]
		l = append(l, sample{Reply{Fault: Fault{Code: code}}, join(four(code), make([]byte, 2+n))})
	}
	return l
}

// resultSamples are results of each kind.
func resultSamples() []sample {
	l := []sample{
		{Reply{Opcode: 8, Kind: 1}, []byte{0, 0, 0, 1}},
		{Reply{Opcode: 8, Kind: 2}, []byte{0, 0, 0, 2}},
		{Reply{Opcode: 8, Kind: 2, Rest: []byte{7, 0, 255}}, []byte{0, 0, 0, 2, 7, 0, 255}},
		{Reply{Opcode: 8, Kind: 3}, []byte{0, 0, 0, 3, 0, 0}},
		{Reply{Opcode: 8, Kind: 3, Text: "ks"}, []byte{0, 0, 0, 3, 0, 2, 107, 115}},
		{Reply{Opcode: 8, Kind: 4}, []byte{0, 0, 0, 4, 0, 0}},
		{Reply{Opcode: 8, Kind: 4, Id: []byte{5}}, []byte{0, 0, 0, 4, 0, 1, 5}},
		{Reply{Opcode: 8, Kind: 4, Rest: []byte{6, 0}}, []byte{0, 0, 0, 4, 0, 0, 6, 0}},
		{Reply{Opcode: 8, Kind: 4, Id: []byte{5, 6}, Rest: []byte{1, 2, 3}}, []byte{0, 0, 0, 4, 0, 2, 5, 6, 1, 2, 3}},
	}
	for _, c := range changes() {
		l = append(l, sample{Reply{Opcode: 8, Kind: 5, Change: c.change}, join([]byte{0, 0, 0, 5}, c.laid)})
	}
	return l
}

// changed is a change with its bytes.
type changed struct {
	change Change
	laid   []byte
}

// changes are those of each word and each target.
func changes() []changed {
	var l []changed
	for _, what := range dones {
		for _, target := range targets {
			c := Change{What: what, Target: target, Space: "sp"}
			b := text(what, target, "sp")
			if target != "KEYSPACE" {
				c.Name = "n"
				b = append(b, 0, 1, 110)
			}
			if target == "FUNCTION" || target == "AGGREGATE" {
				l = append(l, changed{c, join(b, []byte{0, 0})})
				c.Args = []string{"int", ""}
				b = append(b, 0, 2, 0, 3, 105, 110, 116, 0, 0)
			}
			l = append(l, changed{c, b})
		}
	}
	return l
}

// eventSamples are events of each kind, with each word.
func eventSamples() []sample {
	six := api.Inet{Addr: make([]byte, 16), Port: math.MaxUint32}
	sixLaid := join([]byte{16}, make([]byte, 16), []byte{255, 255, 255, 255})
	var l []sample
	for _, what := range moves {
		l = append(l,
			sample{Reply{Opcode: 12, Note: Note{Kind: kinds[0], What: what, Addr: host}}, join(text(kinds[0], what), hostLaid)},
			sample{Reply{Opcode: 12, Note: Note{Kind: kinds[0], What: what, Addr: six}}, join(text(kinds[0], what), sixLaid)})
	}
	for _, what := range statuses {
		l = append(l,
			sample{Reply{Opcode: 12, Note: Note{Kind: kinds[1], What: what, Addr: host}}, join(text(kinds[1], what), hostLaid)},
			sample{Reply{Opcode: 12, Note: Note{Kind: kinds[1], What: what, Addr: six}}, join(text(kinds[1], what), sixLaid)})
	}
	for _, c := range changes() {
		l = append(l, sample{Reply{Opcode: 12, Note: Note{Kind: kinds[2], Schema: c.change}}, join(text(kinds[2]), c.laid)})
	}
	return l
}

// sameFault tells whether two errors are alike; nil and empty lists are.
func sameFault(x, y Fault) bool {
	return x.Code == y.Code && x.Text == y.Text && x.Level == y.Level && x.Received == y.Received && x.Needed == y.Needed &&
		x.Failures == y.Failures && x.Data == y.Data && x.Write == y.Write && x.Space == y.Space && x.Name == y.Name &&
		slices.Equal(x.Args, y.Args) && bytes.Equal(x.Id, y.Id)
}

// sameChange tells whether two changes are alike.
func sameChange(x, y Change) bool {
	return x.What == y.What && x.Target == y.Target && x.Space == y.Space && x.Name == y.Name && slices.Equal(x.Args, y.Args)
}

// sameNote tells whether two events are alike.
func sameNote(x, y Note) bool {
	return x.Kind == y.Kind && x.What == y.What && bytes.Equal(x.Addr.Addr, y.Addr.Addr) && x.Addr.Port == y.Addr.Port && sameChange(x.Schema, y.Schema)
}

// sameMulti tells whether two keys have the same texts.
func sameMulti(x, y api.Multi) bool {
	return x.Key == y.Key && slices.Equal(x.Values, y.Values)
}

// same tells whether two replies are alike, nil and empty lists being one.
func same(x, y Reply) bool {
	return x.Opcode == y.Opcode && sameFault(x.Fault, y.Fault) && x.Text == y.Text && slices.EqualFunc(x.Support, y.Support, sameMulti) &&
		x.Token.Kind == y.Token.Kind && bytes.Equal(x.Token.Bytes, y.Token.Bytes) && sameNote(x.Note, y.Note) &&
		x.Kind == y.Kind && sameChange(x.Change, y.Change) && bytes.Equal(x.Id, y.Id) && bytes.Equal(x.Rest, y.Rest)
}

// some are the first bytes, as a text that isn't too long to read.
func some(b []byte) string {
	if len(b) > 60 {
		return fmt.Sprintf("%v and %d more", b[:60], len(b)-60)
	}
	return fmt.Sprint(b)
}

// puts fails unless the reply's body is just this.
func puts(t *testing.T, r Reply, want []byte) {
	t.Helper()
	if b, e := Put(r); !bytes.Equal(b, want) || e != api.OK {
		t.Fatalf("Put of opcode %d: %s, %d, want %s", r.Opcode, some(b), e, some(want))
	}
}

// putsNot fails unless putting is this error, and nothing beside it.
func putsNot(t *testing.T, r Reply, want api.Errno) {
	t.Helper()
	if b, e := Put(r); len(b) != 0 || e != want {
		t.Fatalf("Put of opcode %d: %s, %d, want %d alone", r.Opcode, some(b), e, want)
	}
}

// gets fails unless just this reply is got, of bytes that stay as they are.
func gets(t *testing.T, b []byte, want Reply) {
	t.Helper()
	was := bytes.Clone(b)
	if r, e := Get(want.Opcode, b); !same(r, want) || e != api.OK {
		t.Fatalf("Get of opcode %d, %s: %d, want another reply", want.Opcode, some(b), e)
	}
	if !bytes.Equal(b, was) {
		t.Fatalf("%s is changed to %s", some(was), some(b))
	}
}

// getsNot fails unless getting is this error, and nothing beside it.
func getsNot(t *testing.T, opcode byte, b []byte, want api.Errno) {
	t.Helper()
	if r, e := Get(opcode, b); !same(r, Reply{}) || e != want {
		t.Fatalf("Get of opcode %d, %s: opcode %d, %d, want %d alone", opcode, some(b), r.Opcode, e, want)
	}
}

// endless tells whether a reply takes all that is left: its own end is told by no byte.
func endless(r Reply) bool {
	return r.Opcode == 8 && (r.Kind == 2 || r.Kind == 4)
}

// holds fails unless the reply is put as this body, and got of it.
func holds(t *testing.T, x sample) {
	t.Helper()
	puts(t, x.reply, x.body)
	gets(t, x.body, x.reply)
}

// ends fails unless the body, cut anywhere, is too short, and with bytes behind too long.
func ends(t *testing.T, x sample) {
	t.Helper()
	for n := range x.body {
		getsNot(t, x.reply.Opcode, x.body[:n], api.ErrShort)
		getsNot(t, x.reply.Opcode, x.body[:n:n], api.ErrShort)
	}
	for _, behind := range []byte{0, 1, 255} {
		getsNot(t, x.reply.Opcode, join(x.body, []byte{behind}), api.ErrBody)
	}
	getsNot(t, x.reply.Opcode, join(x.body, x.body, []byte{0}), api.ErrBody)
}

// P9.1: the chapter's examples.
func TestExamples(t *testing.T) {
	gets(t, nil, Reply{Opcode: api.Ready})
	gets(t, []byte{}, Reply{Opcode: api.Ready})
	getsNot(t, api.Result, []byte{0, 0, 0, 9}, api.ErrForm)
}

// P9.1, P9.2: ordinary replies of every opcode, code, kind, target and word, put and got.
func TestEveryOpcode(t *testing.T) {
	var seen []byte
	for _, x := range samples() {
		holds(t, x)
		seen = append(seen, x.reply.Opcode)
	}
	slices.Sort(seen)
	if !slices.Equal(slices.Compact(seen), known) {
		t.Error("opcodes without a sample:", seen)
	}
}

// P9.1: bodies that have an end of their own, cut anywhere, and with bytes behind.
func TestEnds(t *testing.T) {
	for _, x := range samples() {
		if !endless(x.reply) {
			ends(t, x)
		}
	}
}

// P9.1, P9.2: an opcode that is none of these is told ahead of all else.
func TestOtherOpcodes(t *testing.T) {
	for n := range 256 {
		opcode := byte(n)
		if slices.Contains(known, opcode) {
			continue
		}
		putsNot(t, laden(opcode), api.ErrOpcode)
		putsNot(t, Reply{Opcode: opcode}, api.ErrOpcode)
		getsNot(t, opcode, nil, api.ErrOpcode)
		getsNot(t, opcode, []byte{0, 0, 0, 1}, api.ErrOpcode)
		getsNot(t, opcode, make([]byte, 100), api.ErrOpcode)
	}
}

// P9.1, P9.2: kinds of results that there aren't, whatever is behind.
func TestOtherKinds(t *testing.T) {
	for _, kind := range []uint32{0, 6, 7, 9, 255, 256, 257, 258, 1 << 16, 1 << 24, 1<<24 + 1, 1 << 31, math.MaxUint32} {
		putsNot(t, Reply{Opcode: 8, Kind: kind}, api.ErrForm)
		putsNot(t, Reply{Opcode: 8, Kind: kind, Text: long, Id: tooLong, Rest: []byte{1}}, api.ErrForm)
		getsNot(t, 8, four(kind), api.ErrForm)
		getsNot(t, 8, join(four(kind), []byte{0}), api.ErrForm)
		getsNot(t, 8, join(four(kind), make([]byte, 100)), api.ErrForm)
	}
}

// others are words that no list of the document has: near ones, those of other lists, empty and long ones.
func others(named []string) []string {
	l := []string{"", "x", "created", "UP ", " UP", "Up", "DOWN\x00", "NEW-NODE", "NEW_NOD", "NEW_NODES", "STATUS", "CHANGE", "MATERIALIZED_VIEW", "\xff", long[1:]}
	for _, words := range [][]string{dones, targets, kinds, moves, statuses} {
		for _, s := range words {
			l = append(l, s, strings.ToLower(s), s[1:], s[:len(s)-1], s+"S", s+" ")
		}
	}
	return slices.DeleteFunc(l, func(s string) bool { return slices.Contains(named, s) })
}

// place is where a word stands: what is ahead of it, the words that may be there, and the reply with a word put there.
type place struct {
	opcode byte
	ahead  []byte
	named  []string
	with   func(word string) Reply
}

// places are all of them.
func places() []place {
	l := []place{
		{8, four(5), dones, func(s string) Reply { return Reply{Opcode: 8, Kind: 5, Change: Change{What: s, Target: "TABLE"}} }},
		{8, join(four(5), text("DROPPED")), targets, func(s string) Reply {
			return Reply{Opcode: 8, Kind: 5, Change: Change{What: "DROPPED", Target: s}}
		}},
		{12, nil, kinds, func(s string) Reply { return Reply{Opcode: 12, Note: Note{Kind: s, What: "UP", Addr: host}} }},
		{12, text(kinds[2]), dones, func(s string) Reply {
			return Reply{Opcode: 12, Note: Note{Kind: kinds[2], Schema: Change{What: s, Target: "TYPE"}}}
		}},
		{12, text(kinds[2], "UPDATED"), targets, func(s string) Reply {
			return Reply{Opcode: 12, Note: Note{Kind: kinds[2], Schema: Change{What: "UPDATED", Target: s}}}
		}},
	}
	for i, named := range [][]string{moves, statuses} {
		l = append(l, place{12, text(kinds[i]), named, func(s string) Reply {
			return Reply{Opcode: 12, Note: Note{Kind: kinds[i], What: s, Addr: host}}
		}})
	}
	return l
}

// P9.1: a word that isn't named is told where it stands, whatever is behind, even nothing; cut, it is too short.
func TestGetOtherWords(t *testing.T) {
	for _, p := range places() {
		for _, word := range others(p.named) {
			body := join(p.ahead, text(word))
			getsNot(t, p.opcode, body, api.ErrForm)
			getsNot(t, p.opcode, join(body, []byte{0}), api.ErrForm)
			getsNot(t, p.opcode, join(body, make([]byte, 100)), api.ErrForm)
			getsNot(t, p.opcode, body[:len(body)-1], api.ErrShort)
			getsNot(t, p.opcode, p.ahead, api.ErrShort)
		}
	}
}

// P9.2: a word that isn't named is ErrForm, however long it is.
func TestPutOtherWords(t *testing.T) {
	for _, p := range places() {
		for _, word := range others(p.named) {
			putsNot(t, p.with(word), api.ErrForm)
		}
		putsNot(t, p.with(long), api.ErrForm)
		putsNot(t, p.with(long+long), api.ErrForm)
		putsNot(t, p.with(p.named[0]+long), api.ErrForm)
	}
}

// P9.1, P9.2: a word of a list may stand only where that list does.
func TestWordsOfOtherKinds(t *testing.T) {
	for _, what := range statuses {
		putsNot(t, Reply{Opcode: 12, Note: Note{Kind: kinds[0], What: what, Addr: host}}, api.ErrForm)
		getsNot(t, 12, join(text(kinds[0], what), hostLaid), api.ErrForm)
	}
	for _, what := range moves {
		putsNot(t, Reply{Opcode: 12, Note: Note{Kind: kinds[1], What: what, Addr: host}}, api.ErrForm)
		getsNot(t, 12, join(text(kinds[1], what), hostLaid), api.ErrForm)
	}
}

// P9.1, P9.2: ints of errors with their sign, each at its place.
func TestInts(t *testing.T) {
	for _, x := range []int32{0, 1, -1, -2, 255, 256, -256, 65536, math.MaxInt32, math.MinInt32, math.MinInt32 + 1} {
		i, seven := four(uint32(x)), four(7)
		for _, c := range []struct {
			f Fault
			b []byte
		}{
			{Fault{Code: 4096, Needed: x, Received: 7}, join(i, seven)},
			{Fault{Code: 4096, Needed: 7, Received: x}, join(seven, i)},
			{Fault{Code: 4352, Needed: x, Received: 7}, join(seven, i, []byte{0, 0})},
			{Fault{Code: 4352, Needed: 7, Received: x}, join(i, seven, []byte{0, 0})},
			{Fault{Code: 4608, Needed: x, Received: 7}, join(seven, i, []byte{0})},
			{Fault{Code: 4608, Needed: 7, Received: x}, join(i, seven, []byte{0})},
			{Fault{Code: 4864, Needed: x, Received: 7, Failures: 7}, join(seven, i, seven, []byte{0})},
			{Fault{Code: 4864, Needed: 7, Received: x, Failures: 7}, join(i, seven, seven, []byte{0})},
			{Fault{Code: 4864, Needed: 7, Received: 7, Failures: x}, join(seven, seven, i, []byte{0})},
			{Fault{Code: 5376, Needed: x, Received: 7, Failures: 7}, join(seven, i, seven, []byte{0, 0})},
			{Fault{Code: 5376, Needed: 7, Received: x, Failures: 7}, join(i, seven, seven, []byte{0, 0})},
			{Fault{Code: 5376, Needed: 7, Received: 7, Failures: x}, join(seven, seven, i, []byte{0, 0})},
		} {
			holds(t, sample{Reply{Fault: c.f}, join(four(c.f.Code), []byte{0, 0, 0, 0}, c.b)})
		}
	}
}

// P9.1, P9.2: each byte may be Data.
func TestData(t *testing.T) {
	for n := range 256 {
		data := byte(n)
		holds(t, sample{Reply{Fault: Fault{Code: 4608, Data: data}}, join(four(4608), make([]byte, 12), []byte{data})})
		holds(t, sample{Reply{Fault: Fault{Code: 4864, Data: data}}, join(four(4864), make([]byte, 16), []byte{data})})
	}
}

// P9.1, P9.2: consistencies of errors, all that there are, and others.
func TestLevels(t *testing.T) {
	for i, code := range []uint32{4096, 4352, 4608, 4864, 5376} {
		behind := make([]byte, []int{8, 10, 9, 13, 14}[i])
		for _, level := range []uint16{0, 1, 2, 3, 4, 5, 6, 7, 8, 9, 10, 11, 255, 256, 257, 65535} {
			x := sample{Reply{Fault: Fault{Code: code, Level: level}}, join(four(code), []byte{0, 0, byte(level >> 8), byte(level)}, behind)}
			if level <= 10 {
				holds(t, x)
				ends(t, x)
				continue
			}
			putsNot(t, x.reply, api.ErrArg)
			getsNot(t, 0, x.body, api.ErrForm)
			getsNot(t, 0, x.body[:8], api.ErrForm)
			getsNot(t, 0, join(x.body, []byte{0}), api.ErrForm)
		}
	}
}

// P9.1, P9.2: as many as a short can tell, of each part that has one.
func TestMost(t *testing.T) {
	most := long[1:]
	id := bytes.Repeat([]byte{6}, 65535)
	many := make([]string, 65535)
	for _, x := range []sample{
		{Reply{Fault: Fault{Text: most}}, join(four(0), text(most))},
		{Reply{Fault: Fault{Code: 4352, Write: most}}, join(four(4352), make([]byte, 12), text(most))},
		{Reply{Fault: Fault{Code: 5376, Write: most}}, join(four(5376), make([]byte, 16), text(most))},
		{Reply{Fault: Fault{Code: 5120, Space: most, Name: most, Args: []string{most}}}, join(four(5120), []byte{0, 0}, text(most, most), []byte{0, 1}, text(most))},
		{Reply{Fault: Fault{Code: 5120, Args: many}}, join(four(5120), make([]byte, 6), []byte{255, 255}, make([]byte, 2*65535))},
		{Reply{Fault: Fault{Code: 9216, Space: most, Name: most}}, join(four(9216), []byte{0, 0}, text(most, most))},
		{Reply{Fault: Fault{Code: 9472, Id: id}}, join(four(9472), []byte{0, 0, 255, 255}, id)},
		{Reply{Opcode: 3, Text: most}, text(most)},
		{Reply{Opcode: 6, Support: []api.Multi{{Key: most, Values: many}}}, join([]byte{0, 1}, text(most), []byte{255, 255}, make([]byte, 2*65535))},
		{Reply{Opcode: 6, Support: make([]api.Multi, 65535)}, join([]byte{255, 255}, make([]byte, 4*65535))},
		{Reply{Opcode: 8, Kind: 3, Text: most}, join(four(3), text(most))},
		{Reply{Opcode: 8, Kind: 5, Change: Change{What: "CREATED", Target: "KEYSPACE", Space: most}}, join(four(5), text("CREATED", "KEYSPACE", most))},
		{Reply{Opcode: 8, Kind: 5, Change: Change{What: "CREATED", Target: "FUNCTION", Space: most, Name: most, Args: many}},
			join(four(5), text("CREATED", "FUNCTION", most, most), []byte{255, 255}, make([]byte, 2*65535))},
		{Reply{Opcode: 14, Token: set(tooLong...)}, join([]byte{0, 1, 0, 0}, tooLong)},
	} {
		holds(t, x)
		getsNot(t, x.reply.Opcode, x.body[:len(x.body)-1], api.ErrShort)
		getsNot(t, x.reply.Opcode, join(x.body, []byte{0}), api.ErrBody)
	}
	holds(t, sample{Reply{Opcode: 8, Kind: 4, Id: id}, join(four(4), []byte{255, 255}, id)})
	getsNot(t, 8, join(four(4), []byte{255, 255}, id[1:]), api.ErrShort)
}

// P9.1, P9.2: rows, and what was prepared, have all that is left: much, and each end of it.
func TestRest(t *testing.T) {
	much := make([]byte, 300000)
	for i := range much {
		much[i] = byte(i ^ i>>8)
	}
	for _, n := range []int{0, 1, 2, 3, 255, 256, 65535, 65536, 65537, len(much)} {
		holds(t, sample{Reply{Opcode: 8, Kind: 2, Rest: much[:n]}, join(four(2), much[:n])})
		holds(t, sample{Reply{Opcode: 8, Kind: 4, Rest: much[:n]}, join(four(4), []byte{0, 0}, much[:n])})
		holds(t, sample{Reply{Opcode: 8, Kind: 4, Id: []byte{1, 2}, Rest: much[:n]}, join(four(4), []byte{0, 2, 1, 2}, much[:n])})
	}
	// Cut within the rest there is less of it; ahead of it, it is too short.
	body := join(four(4), []byte{0, 2, 1, 2, 3, 4, 5})
	for n := range body {
		if n < 8 {
			getsNot(t, 8, body[:n], api.ErrShort)
			continue
		}
		gets(t, body[:n], Reply{Opcode: 8, Kind: 4, Id: []byte{1, 2}, Rest: body[8:n]})
	}
	for n := range 4 {
		getsNot(t, 8, four(2)[:n], api.ErrShort)
	}
}

// P9.2: errors of prims and maps, and of an Id, of each part that has some.
func TestPutPartErrors(t *testing.T) {
	many := make([]string, 65536)
	for _, c := range []struct {
		r Reply
		e api.Errno
	}{
		{Reply{Fault: Fault{Text: long}}, api.ErrLong},
		{Reply{Fault: Fault{Code: 4352, Write: long}}, api.ErrLong},
		{Reply{Fault: Fault{Code: 5376, Write: long}}, api.ErrLong},
		{Reply{Fault: Fault{Code: 5120, Space: long}}, api.ErrLong},
		{Reply{Fault: Fault{Code: 5120, Name: long}}, api.ErrLong},
		{Reply{Fault: Fault{Code: 5120, Args: many}}, api.ErrLong},
		{Reply{Fault: Fault{Code: 5120, Args: []string{"", long}}}, api.ErrLong},
		{Reply{Fault: Fault{Code: 9216, Space: long}}, api.ErrLong},
		{Reply{Fault: Fault{Code: 9216, Name: long}}, api.ErrLong},
		{Reply{Fault: Fault{Code: 9472, Id: tooLong}}, api.ErrLong},
		{Reply{Fault: Fault{Code: 9472, Id: make([]byte, 1<<17)}}, api.ErrLong},
		{Reply{Opcode: 3, Text: long}, api.ErrLong},
		{Reply{Opcode: 6, Support: make([]api.Multi, 65536)}, api.ErrLong},
		{Reply{Opcode: 6, Support: []api.Multi{{}, {Key: long}}}, api.ErrLong},
		{Reply{Opcode: 6, Support: []api.Multi{{Values: many}}}, api.ErrLong},
		{Reply{Opcode: 8, Kind: 3, Text: long}, api.ErrLong},
		{Reply{Opcode: 8, Kind: 4, Id: tooLong}, api.ErrLong},
		{Reply{Opcode: 8, Kind: 4, Id: make([]byte, 65537), Rest: []byte{1}}, api.ErrLong},
		{Reply{Opcode: 12, Note: Note{Kind: kinds[0], What: "NEW_NODE"}}, api.ErrArg},
		{Reply{Opcode: 12, Note: Note{Kind: kinds[1], What: "UP", Addr: api.Inet{Addr: make([]byte, 5)}}}, api.ErrArg},
		{Reply{Opcode: 12, Note: Note{Kind: kinds[1], What: "UP", Addr: api.Inet{Addr: make([]byte, 260)}}}, api.ErrArg},
		{Reply{Opcode: 14, Token: wrong}, api.ErrArg},
		{Reply{Opcode: 16, Token: wrong}, api.ErrArg},
		{Reply{Opcode: 16, Token: api.Value{Kind: -1}}, api.ErrArg},
	} {
		putsNot(t, c.r, c.e)
	}
	for _, target := range targets {
		putsChangeNot(t, Change{What: "CREATED", Target: target, Space: long}, api.ErrLong)
	}
	for _, target := range targets[1:] {
		putsChangeNot(t, Change{What: "CREATED", Target: target, Name: long}, api.ErrLong)
	}
	for _, target := range targets[3:] {
		putsChangeNot(t, Change{What: "CREATED", Target: target, Args: many}, api.ErrLong)
		putsChangeNot(t, Change{What: "CREATED", Target: target, Args: []string{long}}, api.ErrLong)
	}
}

// putsChangeNot fails unless a change is this error, in a result and in an event.
func putsChangeNot(t *testing.T, c Change, want api.Errno) {
	t.Helper()
	putsNot(t, Reply{Opcode: 8, Kind: 5, Change: c}, want)
	putsNot(t, Reply{Opcode: 12, Note: Note{Kind: kinds[2], Schema: c}}, want)
}

// P9.2: of several errors the first one in the order of the body is told.
func TestPutFirstError(t *testing.T) {
	for _, code := range []uint32{4096, 4352, 4608, 4864, 5376} {
		putsNot(t, Reply{Fault: Fault{Code: code, Text: long, Level: 11, Write: long}}, api.ErrLong)
		putsNot(t, Reply{Fault: Fault{Code: code, Level: 11, Write: long}}, api.ErrArg)
	}
	putsChangeNot(t, Change{What: "x", Target: "y", Space: long, Name: long}, api.ErrForm)
	putsChangeNot(t, Change{What: "x", Target: "TABLE", Space: long}, api.ErrForm)
	putsChangeNot(t, Change{What: "CREATED", Target: "y", Space: long}, api.ErrForm)
	putsChangeNot(t, Change{What: long, Target: "TABLE", Space: long}, api.ErrForm)
	bad := api.Inet{Addr: []byte{1}}
	for _, c := range []struct {
		n Note
		e api.Errno
	}{
		{Note{Kind: "x", What: "y", Addr: bad}, api.ErrForm},
		{Note{Kind: kinds[0], What: "UP", Addr: bad}, api.ErrForm},
		{Note{Kind: kinds[1], What: "NEW_NODE", Addr: bad}, api.ErrForm},
		{Note{Kind: kinds[1], What: long, Addr: bad}, api.ErrForm},
		{Note{Kind: kinds[1], What: "DOWN", Addr: bad, Schema: Change{What: "x"}}, api.ErrArg},
		{Note{Kind: kinds[2], What: "x", Addr: bad, Schema: Change{What: "CREATED", Target: "TYPE", Name: long}}, api.ErrLong},
	} {
		putsNot(t, Reply{Opcode: 12, Note: c.n}, c.e)
	}
	putsNot(t, Reply{Opcode: 6, Support: append([]api.Multi{{Key: "k", Values: []string{long}}}, make([]api.Multi, 9)...)}, api.ErrLong)
}

// P9.1: errors of prims and maps, of each part that has some, and which of several is told first.
func TestGetFirstError(t *testing.T) {
	fault := func(code uint32, b ...byte) []byte { return join(four(code), []byte{0, 0}, b) }
	for _, c := range []struct {
		opcode byte
		b      []byte
		e      api.Errno
	}{
		{0, []byte{0, 0, 16, 0, 255, 255, 0, 11}, api.ErrShort},
		{0, fault(4096, 0, 11), api.ErrForm},
		{0, fault(4096, 0, 10, 0), api.ErrShort},
		{0, fault(4352, 0, 11, 0), api.ErrForm},
		{0, fault(4352, 0, 1, 0, 0, 0, 0, 0, 0, 0, 0, 255, 255, 7), api.ErrShort},
		{0, fault(5120, 0, 0, 0, 0, 255, 255), api.ErrShort},
		{0, fault(5120, 0, 0, 0, 0, 0, 2, 0, 0), api.ErrShort},
		{0, fault(9472, 255, 255, 1), api.ErrShort},
		{0, fault(9472, 0, 1, 1, 1), api.ErrBody},
		{0, fault(9473, 0, 1, 1), api.ErrBody},
		{2, []byte{1}, api.ErrBody},
		{2, make([]byte, 1000), api.ErrBody},
		{3, []byte{255, 255, 1}, api.ErrShort},
		{6, []byte{255, 255, 0, 0, 0, 0}, api.ErrShort},
		{6, []byte{0, 1, 0, 0, 255, 255}, api.ErrShort},
		{8, []byte{0, 0, 9}, api.ErrShort},
		{8, []byte{0, 0, 0, 1, 0}, api.ErrBody},
		{8, join(four(5), text("x")), api.ErrForm},
		{8, join(four(5), text("x", "y")), api.ErrForm},
		{8, join(four(5), text("CREATED"), []byte{0}), api.ErrShort},
		{8, join(four(5), text("CREATED", "TYPE", "s", "n", "")), api.ErrBody},
		{8, join(four(5), text("CREATED", "KEYSPACE", "s", "n")), api.ErrBody},
		{8, join(four(5), text("CREATED", "FUNCTION", "s", "n")), api.ErrShort},
		{12, join(text(kinds[0], "x"), []byte{5}), api.ErrForm},
		{12, join(text(kinds[0], "NEW_NODE"), []byte{5}), api.ErrForm},
		{12, join(text(kinds[0], "NEW_NODE"), []byte{5, 0, 0, 0, 0, 0, 0, 0, 0, 0, 0, 0}), api.ErrForm},
		{12, join(text(kinds[1], "UP"), []byte{0}), api.ErrForm},
		{12, join(text(kinds[1], "UP"), []byte{16}, make([]byte, 19)), api.ErrShort},
		{12, join(text(kinds[1], "UP"), hostLaid, hostLaid), api.ErrBody},
		{12, join(text(kinds[2], "UP"), hostLaid), api.ErrForm},
		{14, []byte{255, 255, 255, 253}, api.ErrForm},
		{14, []byte{255, 255, 255, 253, 0}, api.ErrForm},
		{14, []byte{128, 0, 0, 0}, api.ErrForm},
		{14, []byte{0, 0, 0, 2, 7}, api.ErrShort},
		{16, []byte{255, 255, 255, 253}, api.ErrForm},
		{16, []byte{127, 255, 255, 255}, api.ErrShort},
	} {
		getsNot(t, c.opcode, c.b, c.e)
	}
}

// laden is a reply of all parts, each of which is an error where an opcode has it.
func laden(opcode byte) Reply {
	c := Change{What: "x", Target: "y", Space: long, Name: long, Args: []string{long}}
	return Reply{
		Opcode: opcode, Fault: ladenFault(4352), Text: long, Support: []api.Multi{{Key: long}}, Token: wrong,
		Note: Note{Kind: "x", What: "y", Addr: api.Inet{Addr: []byte{1}}, Schema: c},
		Kind: 9, Change: c, Id: tooLong, Rest: []byte{1},
	}
}

// ladenFault is an error of all parts.
func ladenFault(code uint32) Fault {
	return Fault{Code: code, Text: long, Level: 11, Received: -1, Needed: -2, Failures: -3, Data: 4, Write: long, Space: long, Name: long, Args: []string{long}, Id: tooLong}
}

// P9.2: what an opcode, or a kind of result, hasn't is passed over, even if it may not be.
func TestPassedOver(t *testing.T) {
	for _, x := range samples() {
		r, y := laden(x.reply.Opcode), x.reply
		switch y.Opcode {
		case 0:
			r.Fault = y.Fault
		case 3:
			r.Text = y.Text
		case 6:
			r.Support = y.Support
		case 8:
			r.Kind = y.Kind
			switch y.Kind {
			case 2:
				r.Rest = y.Rest
			case 3:
				r.Text = y.Text
			case 4:
				r.Id, r.Rest = y.Id, y.Rest
			case 5:
				r.Change = y.Change
			}
		case 12:
			r.Note = y.Note
		case 14, 16:
			r.Token = y.Token
		}
		puts(t, r, x.body)
	}
}

// P9.2: what a code hasn't is passed over.
func TestFaultPassedOver(t *testing.T) {
	for _, x := range faultSamples() {
		y := x.reply.Fault
		f := ladenFault(y.Code)
		f.Text = y.Text
		switch y.Code {
		case 4864:
			f.Failures, f.Data = y.Failures, y.Data
		case 5376:
			f.Failures, f.Write = y.Failures, y.Write
		case 4352:
			f.Write = y.Write
		case 4608:
			f.Data = y.Data
		case 5120:
			f.Space, f.Name, f.Args = y.Space, y.Name, y.Args
		case 9216:
			f.Space, f.Name = y.Space, y.Name
		case 9472:
			f.Id = y.Id
		}
		if slices.Contains([]uint32{4096, 4352, 4608, 4864, 5376}, y.Code) {
			f.Level, f.Received, f.Needed = y.Level, y.Received, y.Needed
		}
		puts(t, Reply{Fault: f}, x.body)
	}
}

// P9.2: what a target, or a kind of event, hasn't is passed over.
func TestNotePassedOver(t *testing.T) {
	for _, c := range changes() {
		full := c.change
		if full.Target == "KEYSPACE" {
			full.Name = long
		}
		if full.Target != "FUNCTION" && full.Target != "AGGREGATE" {
			full.Args = []string{long}
		}
		puts(t, Reply{Opcode: 8, Kind: 5, Change: full}, join(four(5), c.laid))
		puts(t, Reply{Opcode: 12, Note: Note{Kind: kinds[2], What: long, Addr: api.Inet{Addr: []byte{1}, Port: 1}, Schema: full}}, join(text(kinds[2]), c.laid))
	}
	bad := Change{What: "x", Target: long}
	puts(t, Reply{Opcode: 12, Note: Note{Kind: kinds[0], What: "MOVED_NODE", Addr: host, Schema: bad}}, join(text(kinds[0], "MOVED_NODE"), hostLaid))
	puts(t, Reply{Opcode: 12, Note: Note{Kind: kinds[1], What: "DOWN", Addr: host, Schema: bad}}, join(text(kinds[1], "DOWN"), hostLaid))
	puts(t, Reply{Opcode: 14, Token: api.Value{Kind: api.Null, Bytes: []byte{1}}}, []byte{255, 255, 255, 255})
}

// lists are the lists of bytes that a reply has.
func lists(r Reply) [][]byte {
	return [][]byte{r.Fault.Id, r.Token.Bytes, r.Note.Addr.Addr, r.Id, r.Rest}
}

// P9.2: the body is new memory, and what is handed in stays as it is.
func TestPutIsNewMemory(t *testing.T) {
	for _, r := range []Reply{
		{Fault: Fault{Code: 9472, Id: append(make([]byte, 0, 64), 5, 6)}},
		{Opcode: 14, Token: set(append(make([]byte, 0, 64), 5, 6)...)},
		{Opcode: 12, Note: Note{Kind: kinds[1], What: "UP", Addr: api.Inet{Addr: append(make([]byte, 0, 64), 5, 6, 7, 8)}}},
		{Opcode: 8, Kind: 2, Rest: append(make([]byte, 0, 64), 5, 6)},
		{Opcode: 8, Kind: 4, Id: append(make([]byte, 0, 64), 5, 6), Rest: append(make([]byte, 0, 64), 7, 8)},
	} {
		b, _ := Put(r)
		was := bytes.Clone(b)
		for _, l := range lists(r) {
			for i := range l {
				l[i]++
			}
		}
		if !bytes.Equal(b, was) {
			t.Error("the body follows the reply:", b)
		}
		for i := range b {
			b[i] = 99
		}
		_ = append(b, 99)
		for _, l := range lists(r) {
			if slices.Contains(l, 99) || slices.Contains(l[:cap(l)], 99) {
				t.Error("the reply follows the body:", l)
			}
		}
	}
}

// P9.1: the reply is new memory: it doesn't follow the body, nor the body it, nor one of its lists another.
func TestGetIsNewMemory(t *testing.T) {
	for _, x := range samples() {
		b := bytes.Clone(x.body)
		r, _ := Get(x.reply.Opcode, b)
		for i := range b {
			b[i] ^= 255
		}
		if !same(r, x.reply) {
			t.Fatalf("the reply of %s follows the body", some(x.body))
		}
		was := bytes.Clone(b)
		for i, l := range lists(r) {
			for k := range l {
				l[k] ^= byte(i + 1)
			}
			_ = append(l, 99, 99, 99)
		}
		if !bytes.Equal(b, was) {
			t.Fatalf("the body %s follows the reply", some(x.body))
		}
		for i, l := range lists(r) {
			for k := range l {
				if l[k] != lists(x.reply)[i][k]^byte(i+1) {
					t.Fatalf("a list of the reply of %s follows another", some(x.body))
				}
			}
		}
	}
}

// anyFault is some error, of all parts.
func anyFault(rnd *rand.Rand) Fault {
	codes := slices.Concat(fuller, fuller, plain)
	return Fault{
		Code: codes[rnd.IntN(len(codes))], Text: anyText(rnd), Level: uint16(rnd.IntN(11)), Received: int32(rnd.Uint32()), Needed: int32(rnd.Uint32()),
		Failures: int32(rnd.Uint32()), Data: byte(rnd.Uint32()), Write: anyText(rnd), Space: anyText(rnd), Name: anyText(rnd), Args: anyTexts(rnd), Id: []byte(anyText(rnd)),
	}
}

func anyText(rnd *rand.Rand) string {
	b := make([]byte, rnd.IntN(6))
	for i := range b {
		b[i] = byte(rnd.Uint32())
	}
	return string(b)
}

func anyTexts(rnd *rand.Rand) []string {
	l := make([]string, rnd.IntN(4))
	for i := range l {
		l[i] = anyText(rnd)
	}
	return l
}

func anyChange(rnd *rand.Rand) Change {
	return Change{What: dones[rnd.IntN(3)], Target: targets[rnd.IntN(5)], Space: anyText(rnd), Name: anyText(rnd), Args: anyTexts(rnd)}
}

// anyReply is some reply, of all parts.
func anyReply(rnd *rand.Rand) Reply {
	n := Note{Kind: kinds[rnd.IntN(3)], What: moves[rnd.IntN(3)], Addr: api.Inet{Addr: make([]byte, 4+12*rnd.IntN(2)), Port: rnd.Uint32()}, Schema: anyChange(rnd)}
	if n.Kind == kinds[1] {
		n.What = statuses[rnd.IntN(2)]
	}
	r := Reply{
		Opcode: known[rnd.IntN(len(known))], Fault: anyFault(rnd), Text: anyText(rnd), Token: api.Value{Kind: rnd.IntN(3), Bytes: []byte(anyText(rnd))},
		Note: n, Kind: uint32(1 + rnd.IntN(5)), Change: anyChange(rnd), Id: []byte(anyText(rnd)), Rest: []byte(anyText(rnd)),
	}
	for range rnd.IntN(4) {
		r.Support = append(r.Support, api.Multi{Key: anyText(rnd), Values: anyTexts(rnd)})
	}
	return r
}

// has is what an opcode has of a reply, told by the document's table; of all else nothing.
func has(r Reply) Reply {
	h := Reply{Opcode: r.Opcode}
	switch r.Opcode {
	case 0:
		h.Fault = hasFault(r.Fault)
	case 3:
		h.Text = r.Text
	case 6:
		h.Support = r.Support
	case 8:
		h.Kind = r.Kind
		switch r.Kind {
		case 2:
			h.Rest = r.Rest
		case 3:
			h.Text = r.Text
		case 4:
			h.Id, h.Rest = r.Id, r.Rest
		case 5:
			h.Change = hasChange(r.Change)
		}
	case 12:
		h.Note.Kind = r.Note.Kind
		if r.Note.Kind == kinds[2] {
			h.Note.Schema = hasChange(r.Note.Schema)
		} else {
			h.Note.What, h.Note.Addr = r.Note.What, r.Note.Addr
		}
	case 14, 16:
		h.Token.Kind = r.Token.Kind
		if r.Token.Kind == api.Set {
			h.Token = r.Token
		}
	}
	return h
}

func hasFault(f Fault) Fault {
	h := Fault{Code: f.Code, Text: f.Text}
	switch f.Code {
	case 4096, 4352, 4608, 4864, 5376:
		h.Level, h.Received, h.Needed = f.Level, f.Received, f.Needed
	case 5120:
		h.Space, h.Name, h.Args = f.Space, f.Name, f.Args
	case 9216:
		h.Space, h.Name = f.Space, f.Name
	case 9472:
		h.Id = f.Id
	}
	if f.Code == 4864 || f.Code == 5376 {
		h.Failures = f.Failures
	}
	if f.Code == 4608 || f.Code == 4864 {
		h.Data = f.Data
	}
	if f.Code == 4352 || f.Code == 5376 {
		h.Write = f.Write
	}
	return h
}

func hasChange(c Change) Change {
	h := Change{What: c.What, Target: c.Target, Space: c.Space}
	if c.Target != "KEYSPACE" {
		h.Name = c.Name
	}
	if c.Target == "FUNCTION" || c.Target == "AGGREGATE" {
		h.Args = c.Args
	}
	return h
}

// P9.3: what is put is got, but for what an opcode hasn't; and that is put as it was.
func TestPutIsGot(t *testing.T) {
	rnd := rand.New(rand.NewPCG(9, 3))
	for range 20000 {
		r := anyReply(rnd)
		b, e := Put(r)
		if e != api.OK {
			t.Fatal(r, e)
		}
		gets(t, b, has(r))
		puts(t, has(r), b)
		if !endless(r) {
			ends(t, sample{has(r), b})
		}
	}
}

// P9.3: whatever is got is put as it was, of bytes that are changed at one place too; nothing else than the errors of Get is told.
func TestGotIsPut(t *testing.T) {
	rnd := rand.New(rand.NewPCG(9, 1))
	told := []api.Errno{api.ErrShort, api.ErrForm, api.ErrBody}
	got := 0
	for _, x := range samples() {
		for i := range x.body {
			for range 8 {
				b := bytes.Clone(x.body)
				b[i] = byte(rnd.Uint32())
				r, e := Get(x.reply.Opcode, b)
				if e == api.OK {
					got++
					puts(t, r, b)
				} else if !slices.Contains(told, e) || !same(r, Reply{}) {
					t.Fatal(some(b), r, e)
				}
			}
		}
	}
	if got == 0 {
		t.Error("nothing was got")
	}
}
