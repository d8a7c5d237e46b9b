package rows

import (
	"bytes"
	"math"
	"math/rand/v2"
	"slices"
	"testing"

	"signalbox/api"
)

// getsMeta fails unless just this is what was prepared, of bytes that stay as they are.
func getsMeta(t *testing.T, b []byte, want Meta) {
	t.Helper()
	was := bytes.Clone(b)
	if m, e := GetMeta(b); !sameMeta(m, want) || e != api.OK {
		t.Fatalf("GetMeta of %s: %v, %s, %s, %d, want another one", some(b), m.Keys, shown(m.Asks), shown(m.Answers), e)
	}
	if !bytes.Equal(b, was) {
		t.Fatalf("%s is changed to %s", some(was), some(b))
	}
}

// getsMetaNot fails unless getting what was prepared is this error, and nothing beside it.
func getsMetaNot(t *testing.T, b []byte, want api.Errno) {
	t.Helper()
	if m, e := GetMeta(b); !sameMeta(m, Meta{}) || e != want {
		t.Fatalf("GetMeta of %s: %v, %s, %s, %d, want %d alone", some(b), m.Keys, shown(m.Asks), shown(m.Answers), e, want)
	}
}

// numbers are those of columns, rows and Keys that may not be, with their errors.
var numbers = []struct {
	n int32
	e api.Errno
}{
	{-1, api.ErrForm}, {-2, api.ErrForm}, {-4096, api.ErrForm}, {math.MinInt32, api.ErrForm}, {math.MinInt32 + 1, api.ErrForm},
	{4097, api.ErrLong}, {65536, api.ErrLong}, {math.MaxInt32, api.ErrLong},
}

// otherFlags are those that may not be.
var otherFlags = []int32{-1, 8, 9, 12, 15, 16, 255, 256, 1 << 16, 1 << 24, -2, -8, math.MinInt32, math.MinInt32 + 1, math.MaxInt32}

// tails stand behind what is wrong, which is told whatever stands there.
func tails() [][]byte {
	return [][]byte{nil, {0}, {255, 255, 255, 255, 255}, make([]byte, 100), join(ints(0, 0, 0), []byte{1})}
}

// P10.1: the chapter's examples.
func TestExamples(t *testing.T) {
	gets(t, []byte{0, 0, 0, 4, 0, 0, 0, 1, 0, 0, 0, 1, 0, 0, 0, 1, 9}, Table{Count: 1, Rows: [][]api.Value{{set(9)}}})
	getsNot(t, []byte{0, 0, 0, 8}, api.ErrFlags)
}

// withFlags is a table of two columns and a row, with the bytes that it has with these flags.
func withFlags(flags int32) (Table, []byte, []byte) {
	x := Table{Count: 2, More: flags&2 != 0}
	head := ints(flags, 2)
	var behind []byte
	if x.More {
		x.State = set(4, 5)
		behind = append(behind, 0, 0, 0, 2, 4, 5)
	}
	switch flags & 5 {
	case 0:
		x.Columns = apart()[:2]
		behind = append(behind, join(text("s", "t", "a"), ownLaid, text("s", "u", "a"), wholeLaid)...)
	case 1:
		x.Columns = two()
		behind = append(behind, join(text("s", "t", "a"), wholeLaid, text("b"), wordsLaid)...)
	}
	return x, head, behind
}

// P10.1: all flags that there are, each read for itself.
func TestFlags(t *testing.T) {
	for flags := range int32(8) {
		x, head, behind := withFlags(flags)
		b := join(head, behind, ints(1, 1), []byte{7}, nullLaid)
		x.Rows = [][]api.Value{{set(7), null}}
		gets(t, b, x)
		cut(t, b)
	}
}

// P10.1: flags that may not be are told ahead of all else.
func TestOtherFlags(t *testing.T) {
	for _, flags := range otherFlags {
		for _, tail := range tails() {
			getsNot(t, join(ints(flags), tail), api.ErrFlags)
		}
		getsNot(t, ints(flags, -1), api.ErrFlags)
		getsNot(t, ints(flags, 4097), api.ErrFlags)
		getsNot(t, ints(flags, 0, 0), api.ErrFlags)
		getsNot(t, ints(flags)[:3], api.ErrShort)
	}
}

// cut fails unless a table's bytes, cut anywhere, are too short, and with bytes behind too long.
func cut(t *testing.T, b []byte) {
	t.Helper()
	for n := range b {
		getsNot(t, b[:n], api.ErrShort)
		getsNot(t, b[:n:n], api.ErrShort)
	}
	for _, behind := range [][]byte{{0}, {1}, {255}, {255, 255, 255, 255}, b} {
		getsNot(t, join(b, behind), api.ErrBody)
	}
}

// P10.1: all bytes cut anywhere, and with bytes behind.
func TestCut(t *testing.T) {
	for _, x := range samples() {
		cut(t, x.laid)
	}
}

// P10.1: how many columns there may be.
func TestNumberOfColumns(t *testing.T) {
	for flags := range int32(8) {
		for _, c := range numbers {
			for _, tail := range tails() {
				getsNot(t, join(ints(flags, c.n), tail), c.e)
			}
			getsNot(t, ints(flags, c.n)[:7], api.ErrShort)
		}
	}
	gets(t, ints(0, 0, 0), Table{})
	gets(t, ints(4, 0, 0), Table{})
	gets(t, ints(4, 4095, 0), Table{Count: 4095})
	gets(t, ints(4, 4096, 0), Table{Count: 4096})
	most := Table{Count: 4096, Columns: slices.Repeat([]Column{{"s", "t", "a", whole}}, 4096)}
	each := join(text("s", "t", "a"), wholeLaid)
	gets(t, join(ints(0, 4096), bytes.Repeat(each, 4096), ints(0)), most)
	gets(t, join(ints(1, 4096), text("s", "t"), bytes.Repeat(each[6:], 4096), ints(0)), most)
	getsNot(t, join(ints(0, 4096), bytes.Repeat(each, 4095), ints(0)), api.ErrShort)
	getsNot(t, join(ints(0, 4097), bytes.Repeat(each, 4097), ints(0)), api.ErrLong)
	getsNot(t, ints(4, 4097, 0), api.ErrLong)
}

// P10.1: what all columns are of stands there with the flag 1, even if there are no columns.
func TestGlobalWithoutColumns(t *testing.T) {
	b := join(ints(1, 0), text("sp", "ta"), ints(2))
	gets(t, b, Table{Rows: make([][]api.Value, 2)})
	cut(t, b)
	b = join(ints(3, 0), nullLaid, text("sp", ""), ints(0))
	gets(t, b, Table{More: true})
	cut(t, b)
}

// P10.1: how many rows there may be.
func TestNumberOfRows(t *testing.T) {
	for flags := range int32(8) {
		_, head, behind := withFlags(flags)
		ahead := join(head, behind)
		for _, c := range numbers {
			for _, tail := range tails() {
				getsNot(t, join(ahead, ints(c.n), tail), c.e)
			}
			getsNot(t, join(ahead, ints(c.n)[:3]), api.ErrShort)
		}
	}
	for _, n := range []int{0, 1, 4095, 4096} {
		gets(t, ints(0, 0, int32(n)), Table{Rows: make([][]api.Value, n)})
		rows := slices.Repeat([][]api.Value{{set(3), null}}, n)
		gets(t, join(ints(4, 2), values(rows)), Table{Count: 2, Rows: rows})
	}
	getsNot(t, ints(0, 0, 4097), api.ErrLong)
	getsNot(t, ints(0, 0, -1), api.ErrForm)
	getsNot(t, join(ints(4, 1, 4097), bytes.Repeat(nullLaid, 4097)), api.ErrLong)
	getsNot(t, join(ints(4, 1, 4096), bytes.Repeat(nullLaid, 4095)), api.ErrShort)
	getsNot(t, join(ints(4, 1, 4096), bytes.Repeat(nullLaid, 4097)), api.ErrBody)
}

// P10.1, P10.3: rows of as many values as there may be, and as many rows as there may be.
func TestMostValues(t *testing.T) {
	for _, c := range [][2]int{{4096, 3}, {3, 4096}} {
		x := Table{Count: c[0], Rows: make([][]api.Value, c[1])}
		for i := range x.Rows {
			x.Rows[i] = make([]api.Value, c[0])
			x.Rows[i][i%c[0]] = set(byte(i), byte(i>>8))
		}
		holds(t, sample{x, false, join(ints(4, int32(c[0])), values(x.Rows))})
	}
}

// P10.1: a value of a row isn't Unset, nor what is no value at all; it is told where it stands.
func TestWrongValues(t *testing.T) {
	for _, bad := range [][]byte{unsetLaid, ints(-3), ints(-4), ints(math.MinInt32)} {
		for place := range 6 {
			all := slices.Repeat([][]byte{{0, 0, 0, 1, 7}}, 6)
			all[place] = bad
			b := join(ints(4, 2, 3), join(all...))
			getsNot(t, b, api.ErrForm)
			getsNot(t, join(b, []byte{0}), api.ErrForm)
			till := 12 + 5*place + 4
			for _, tail := range tails() {
				getsNot(t, join(b[:till], tail), api.ErrForm)
			}
			getsNot(t, b[:till-1], api.ErrShort)
		}
	}
	// A value that is too short ahead of a wrong one takes its bytes for its own.
	getsNot(t, join(ints(4, 2, 1, 9), unsetLaid), api.ErrShort)
	getsNot(t, join(ints(4, 2, 1, math.MaxInt32), unsetLaid, unsetLaid), api.ErrShort)
	// Bytes of a value may look like an Unset one.
	gets(t, join(ints(4, 1, 1, 4), unsetLaid), Table{Count: 1, Rows: [][]api.Value{{set(unsetLaid...)}}})
}

// P10.1: a State may be Unset, but not what is no value at all.
func TestStates(t *testing.T) {
	for _, state := range []api.Value{null, unset, set(), set(0), set(unsetLaid...), set(make([]byte, 70000)...)} {
		gets(t, join(ints(6, 1), value(state), ints(0)), Table{Count: 1, More: true, State: state})
		gets(t, join(ints(2, 0), value(state), ints(0)), Table{More: true, State: state})
	}
	for _, n := range []int32{-3, -4, math.MinInt32} {
		for _, tail := range tails() {
			getsNot(t, join(ints(6, 1, n), tail), api.ErrForm)
			getsNot(t, join(ints(2, 1, n), tail), api.ErrForm)
		}
	}
	getsNot(t, ints(6, 1, 5, 0), api.ErrShort)
	getsNot(t, ints(6, 1, math.MaxInt32, 0), api.ErrShort)
}

// P10.1: errors of option, of each column's Type.
func TestWrongTypes(t *testing.T) {
	_, most := deep(20)
	_, over := deep(21)
	getsNot(t, join(ints(0, 1), text("", "", ""), over, ints(0)), api.ErrDeep)
	for _, global := range []int32{0, 1} {
		for _, c := range []struct {
			bad []byte
			e   api.Errno
		}{
			{[]byte{0, 10}, api.ErrForm}, {[]byte{0, 21}, api.ErrForm}, {[]byte{255, 255}, api.ErrForm}, {[]byte{0, 32, 0, 10}, api.ErrForm},
			{over, api.ErrDeep}, {over[:40], api.ErrDeep}, {bytes.Repeat([]byte{0, 32}, 20), api.ErrDeep},
		} {
			ahead := join(ints(global, 2), text("s", "t", "a"), most)
			if global == 0 {
				ahead = append(ahead, text("s", "t")...)
			}
			ahead = append(ahead, text("b")...)
			for _, tail := range tails() {
				getsNot(t, join(ahead, c.bad, tail), c.e)
			}
			getsNot(t, ahead, api.ErrShort)
			getsNot(t, join(ahead, []byte{0}), api.ErrShort)
		}
	}
}

// part is a part of a table's bytes, as it may be and as it may not.
type part struct {
	good, bad []byte
	e         api.Errno
}

// firstTold fails unless of two wrong parts the first one's error is told, behind all that is good ahead of it.
func firstTold(t *testing.T, l []part, not func(*testing.T, []byte, api.Errno)) {
	t.Helper()
	for i := range l {
		for k := i; k < len(l); k++ {
			var b []byte
			for n, p := range l {
				if n == i || n == k {
					b = append(b, p.bad...)
				} else {
					b = append(b, p.good...)
				}
			}
			not(t, b, l[i].e)
		}
	}
}

// P10.1: of several errors the first one is told, in the order of the bytes.
func TestFirstError(t *testing.T) {
	_, over := deep(21)
	state := part{nullLaid, ints(-3), api.ErrForm}
	for _, number := range []part{{ints(1), ints(-1), api.ErrForm}, {ints(1), ints(4097), api.ErrLong}} {
		for _, kind := range []part{{wholeLaid, over, api.ErrDeep}, {wholeLaid, []byte{0, 10}, api.ErrForm}} {
			rows := []part{number, {nullLaid, unsetLaid, api.ErrForm}, {nil, []byte{0}, api.ErrBody}}
			firstTold(t, slices.Concat([]part{{ints(6), ints(8), api.ErrFlags}, number, state}, rows), getsNot)
			for _, flags := range []int32{2, 3} {
				// The texts stand within the part behind them.
				typed := part{join(text("s", "t", "n"), kind.good), join(text("s", "t", "n"), kind.bad), kind.e}
				firstTold(t, slices.Concat([]part{{ints(flags), ints(-flags), api.ErrFlags}, number, state, typed}, rows), getsNot)
			}
		}
	}
}

// meta is what was prepared, with its bytes.
type meta struct {
	meta Meta
	laid []byte
}

// metas are ordinary ones.
func metas() []meta {
	cols := join(text("s", "t", "a"), wholeLaid, text("b"), wordsLaid)
	wide := join(text("s", "t", "a"), ownLaid, text("s", "u", "a"), wholeLaid, text("r", "u", ""), madeLaid)
	return []meta{
		{Meta{}, ints(0, 0, 0, 0, 0)},
		{Meta{Keys: []uint16{0}, Asks: Table{Count: 1}}, join(ints(4, 1, 1), []byte{0, 0}, ints(4, 0))},
		{Meta{Asks: Table{Count: 1}, Answers: Table{Count: 1}}, ints(4, 1, 0, 4, 1)},
		{Meta{Asks: Table{Count: 2, Columns: two()}}, join(ints(1, 2, 0), cols, ints(0, 0))},
		{Meta{Keys: []uint16{1, 0, 1}, Asks: Table{Count: 2, Columns: two()}, Answers: Table{Count: 3, Columns: apart()}},
			join(ints(1, 2, 3), []byte{0, 1, 0, 0, 0, 1}, cols, ints(0, 3), wide)},
		{Meta{Keys: []uint16{2}, Asks: Table{Count: 3, Columns: apart(), More: true, State: set(5)}, Answers: Table{Count: 2, Columns: two(), More: true, State: unset}},
			join(ints(2, 3, 1), []byte{0, 2}, ints(1), []byte{5}, wide, ints(3, 2), unsetLaid, cols)},
		{Meta{Asks: Table{More: true, State: set()}, Answers: Table{Count: 4096, More: true}}, join(ints(2, 0, 0, 0), ints(6, 4096), nullLaid)},
		{Meta{Answers: Table{Count: 2, Columns: two()}}, join(ints(1, 0, 0), text("x", "y"), ints(1, 2), cols)},
	}
}

// P10.2: what was prepared, with Keys and without, of Answers some and none; cut anywhere, and with bytes behind.
func TestMetas(t *testing.T) {
	for _, m := range metas() {
		getsMeta(t, m.laid, m.meta)
		for n := range m.laid {
			getsMetaNot(t, m.laid[:n], api.ErrShort)
			getsMetaNot(t, m.laid[:n:n], api.ErrShort)
		}
		for _, behind := range [][]byte{{0}, {255}, ints(0), ints(0, 0), m.laid} {
			getsMetaNot(t, join(m.laid, behind), api.ErrBody)
		}
	}
}

// P10.2: all flags of Asks and of Answers, and those that may not be.
func TestMetaFlags(t *testing.T) {
	for asks := range int32(8) {
		x, head, behind := withFlags(asks)
		ahead := join(head, ints(2), []byte{0, 1, 0, 0}, behind)
		for answers := range int32(8) {
			y, last, more := withFlags(answers)
			getsMeta(t, join(ahead, last, more), Meta{Keys: []uint16{1, 0}, Asks: x, Answers: y})
		}
		for _, flags := range otherFlags {
			for _, tail := range tails() {
				getsMetaNot(t, join(ints(flags), tail), api.ErrFlags)
				getsMetaNot(t, join(ahead, ints(flags), tail), api.ErrFlags)
			}
		}
	}
}

// P10.2: how many columns Asks and Answers may have.
func TestMetaNumberOfColumns(t *testing.T) {
	for _, c := range numbers {
		for _, tail := range tails() {
			getsMetaNot(t, join(ints(4, c.n), tail), c.e)
			getsMetaNot(t, join(ints(4, 0, 0, 4, c.n), tail), c.e)
			getsMetaNot(t, join(ints(0, 0, 0, 0, c.n), tail), c.e)
		}
	}
	getsMeta(t, ints(4, 4096, 0, 4, 4096), Meta{Asks: Table{Count: 4096}, Answers: Table{Count: 4096}})
}

// P10.2: how many Keys there may be, each of them any place below Count, also twice.
func TestNumberOfKeys(t *testing.T) {
	for _, c := range numbers {
		for _, tail := range tails() {
			getsMetaNot(t, join(ints(4, 3, c.n), tail), c.e)
			getsMetaNot(t, join(ints(7, 0, c.n), tail), c.e)
		}
	}
	for _, n := range []int{0, 1, 2, 4095, 4096} {
		keys := make([]uint16, n)
		laid := make([]byte, 2*n)
		for i := range keys {
			keys[i] = uint16(i * 7 % 4096)
			laid[2*i], laid[2*i+1] = byte(keys[i]>>8), byte(keys[i])
		}
		getsMeta(t, join(ints(4, 4096, int32(n)), laid, ints(4, 0)), Meta{Keys: keys, Asks: Table{Count: 4096}})
	}
	getsMetaNot(t, join(ints(4, 1, 4097), make([]byte, 2*4097), ints(4, 0)), api.ErrLong)
	getsMetaNot(t, join(ints(4, 1, 4096), make([]byte, 2*4096-1)), api.ErrShort)
	getsMeta(t, join(ints(4, 1, 4096), make([]byte, 2*4096), ints(0, 0)), Meta{Keys: make([]uint16, 4096), Asks: Table{Count: 1}})
}

// P10.2: a Key is a place below Count of Asks.
func TestPlacesOfKeys(t *testing.T) {
	for _, count := range []int{0, 1, 2, 255, 256, 257, 4095, 4096} {
		for _, key := range []int{0, 1, 2, 254, 255, 256, 257, 4094, 4095, 4096, 4097, 32768, 65535} {
			b := join(ints(4, int32(count), 1), []byte{byte(key >> 8), byte(key)}, ints(4, 4096))
			if key < count {
				getsMeta(t, b, Meta{Keys: []uint16{uint16(key)}, Asks: Table{Count: count}, Answers: Table{Count: 4096}})
			} else {
				getsMetaNot(t, b, api.ErrForm)
			}
		}
	}
}

// P10.2: a Key that isn't below Count is told behind all Keys, but ahead of State, columns and Answers.
func TestWrongKeyToldBehindKeys(t *testing.T) {
	for place := range 3 {
		keys := make([]byte, 6)
		keys[2*place+1] = 2
		for flags := range int32(8) {
			b := join(ints(flags, 2, 3), keys)
			for n := range b {
				getsMetaNot(t, b[:n], api.ErrShort)
			}
			for _, tail := range tails() {
				getsMetaNot(t, join(b, tail), api.ErrForm)
			}
			_, _, behind := withFlags(flags)
			getsMetaNot(t, join(b, behind, ints(4, 0)), api.ErrForm)
			getsMetaNot(t, join(b, behind, ints(8, 0)), api.ErrForm)
		}
	}
	// A Count of Asks is asked, none of Answers.
	getsMetaNot(t, join(ints(4, 0, 1), []byte{0, 0}, ints(4, 9)), api.ErrForm)
}

// P10.2: of several errors the first one is told, in the order of the bytes.
func TestFirstMetaError(t *testing.T) {
	_, over := deep(21)
	state := part{nullLaid, ints(-3), api.ErrForm}
	for _, number := range []part{{ints(1), ints(-1), api.ErrForm}, {ints(1), ints(4097), api.ErrLong}} {
		for _, kind := range []part{{wholeLaid, over, api.ErrDeep}, {wholeLaid, []byte{0, 10}, api.ErrForm}} {
			typed := part{join(text("s", "t", "n"), kind.good), join(text("s", "t", "n"), kind.bad), kind.e}
			key := part{[]byte{0, 0}, []byte{0, 1}, api.ErrForm}
			end := part{nil, []byte{0}, api.ErrBody}
			firstTold(t, []part{
				{ints(2), ints(8), api.ErrFlags}, number, number, key, state, typed,
				{ints(3), ints(-1), api.ErrFlags}, number, state, typed, end,
			}, getsMetaNot)
		}
	}
}

// P10.2: rows there are none of, so that bytes that tell some are left.
func TestMetaHasNoRows(t *testing.T) {
	getsMetaNot(t, ints(4, 0, 0, 4, 0, 0), api.ErrBody)
	getsMetaNot(t, join(ints(4, 0, 0, 4, 1, 1), nullLaid), api.ErrBody)
}

// tableLists are the lists of bytes that a table has.
func tableLists(x Table) [][]byte {
	l := [][]byte{x.State.Bytes}
	for _, row := range x.Rows {
		for _, v := range row {
			l = append(l, v.Bytes)
		}
	}
	return l
}

// P10.1: the table is new memory: it doesn't follow the bytes, nor they it, nor one of its lists another.
func TestGetIsNewMemory(t *testing.T) {
	for _, x := range samples() {
		b := bytes.Clone(x.laid)
		y, _ := Get(b)
		for i := range b {
			b[i] ^= 255
		}
		if !same(y, x.table) {
			t.Fatalf("the table of %s follows the bytes", some(x.laid))
		}
		was := bytes.Clone(b)
		for i, l := range tableLists(y) {
			for k := range l {
				l[k] ^= byte(i + 1)
			}
			_ = append(l, 99, 99, 99)
		}
		for _, row := range y.Rows {
			_ = append(row, wrong, wrong)
		}
		_ = append(y.Rows, nil)
		if !bytes.Equal(b, was) {
			t.Fatalf("the bytes %s follow the table", some(x.laid))
		}
		for i, l := range tableLists(y) {
			for k := range l {
				if l[k] != tableLists(x.table)[i][k]^byte(i+1) {
					t.Fatalf("a list of the table of %s follows another", some(x.laid))
				}
			}
		}
	}
}

// P10.1: a column's Type follows no other column's.
func TestTypesAreNewMemory(t *testing.T) {
	x := Table{Count: 2, Columns: []Column{{"s", "t", "a", made}, {"s", "t", "b", made}}}
	b, _ := Put(x, true)
	y, _ := Get(b)
	y.Columns[0].Type.Kids[0].Id = 1
	y.Columns[0].Type.Names[0] = "z"
	y.Columns[0].Space = "z"
	if !sameColumn(y.Columns[1], x.Columns[1]) {
		t.Error(y.Columns[1])
	}
}

// P10.2: what was prepared is new memory.
func TestGetMetaIsNewMemory(t *testing.T) {
	for _, m := range metas() {
		b := bytes.Clone(m.laid)
		x, _ := GetMeta(b)
		for i := range b {
			b[i] ^= 255
		}
		if !sameMeta(x, m.meta) {
			t.Fatalf("what was prepared follows the bytes %s", some(m.laid))
		}
		was := bytes.Clone(b)
		for _, s := range [][]byte{x.Asks.State.Bytes, x.Answers.State.Bytes} {
			for i := range s {
				s[i] ^= 1
			}
		}
		if !bytes.Equal(b, was) {
			t.Fatalf("the bytes %s follow what was prepared", some(m.laid))
		}
	}
}

// P10.1, P10.2: of any bytes there is an answer, and it is the same each time; beside an error there is nothing.
func TestAnyBytes(t *testing.T) {
	rnd := rand.New(rand.NewPCG(10, 1))
	for range 20000 {
		b := bytes.Clone(anySample(rnd).laid)
		if rnd.IntN(2) == 0 {
			b = bytes.Clone(metas()[rnd.IntN(len(metas()))].laid)
		}
		for range 1 + rnd.IntN(3) {
			if len(b) > 0 {
				b[rnd.IntN(len(b))] = []byte{0, 1, 2, 4, 255, byte(rnd.Uint32())}[rnd.IntN(6)]
			}
		}
		x, e := Get(b)
		if again, f := Get(b); !same(x, again) || e != f || e != api.OK && !same(x, Table{}) {
			t.Fatalf("Get of %s: %s, %d, then %s, %d", some(b), shown(x), e, shown(again), f)
		}
		m, e := GetMeta(b)
		if again, f := GetMeta(b); !sameMeta(m, again) || e != f || e != api.OK && !sameMeta(m, Meta{}) {
			t.Fatalf("GetMeta of %s: %d, then %d", some(b), e, f)
		}
	}
}
