package rows

import (
	"bytes"
	"encoding/binary"
	"fmt"
	"math/rand/v2"
	"slices"
	"strings"
	"testing"

	"signalbox/api"
)

// sample is a table with its bytes, which Put puts if it is told whether it is global.
type sample struct {
	table  Table
	global bool
	laid   []byte
}

func set(b ...byte) api.Value {
	return api.Value{Kind: api.Set, Bytes: b}
}

// Values of each other kind, and of one that there isn't.
var (
	null  = api.Value{Kind: api.Null}
	unset = api.Value{Kind: api.Unset}
	wrong = api.Value{Kind: 3}
)

// The bytes of values that have none.
var (
	nullLaid  = []byte{255, 255, 255, 255}
	unsetLaid = []byte{255, 255, 255, 254}
)

// Types, with their bytes.
var (
	whole     = api.Option{Id: api.Int}
	wholeLaid = []byte{0, 9}
	words     = api.Option{Id: api.Map, Kids: []api.Option{{Id: api.Varchar}, {Id: api.List, Kids: []api.Option{{Id: api.Blob}}}}}
	wordsLaid = []byte{0, 33, 0, 13, 0, 32, 0, 3}
	own       = api.Option{Id: api.Custom, Name: "x.y"}
	ownLaid   = []byte{0, 0, 0, 3, 120, 46, 121}
	made      = api.Option{Id: api.Udt, Space: "s", Name: "u", Names: []string{"f", ""}, Kids: []api.Option{{Id: api.Uuid}, {Id: api.Tuple}}}
	madeLaid  = []byte{0, 48, 0, 1, 115, 0, 1, 117, 0, 2, 0, 1, 102, 0, 12, 0, 0, 0, 49, 0, 0}
)

// long is a text that no short can tell.
var long = strings.Repeat("q", 65536)

// join are bytes one behind the other, in new memory.
func join(parts ...[]byte) []byte {
	return slices.Concat(parts...)
}

// text are the bytes of texts, one behind the other.
func text(l ...string) []byte {
	var b []byte
	for _, s := range l {
		b = append(b, byte(len(s)>>8), byte(len(s)))
		b = append(b, s...)
	}
	return b
}

// ints are the bytes of ints, one behind the other.
func ints(l ...int32) []byte {
	var b []byte
	for _, x := range l {
		b = binary.BigEndian.AppendUint32(b, uint32(x))
	}
	return b
}

// value are the bytes of a value, told without the program.
func value(v api.Value) []byte {
	switch v.Kind {
	case api.Set:
		return join(ints(int32(len(v.Bytes))), v.Bytes)
	case api.Null:
		return nullLaid
	}
	return unsetLaid
}

// values are the bytes of rows, how many ahead, told without the program.
func values(all [][]api.Value) []byte {
	b := ints(int32(len(all)))
	for _, row := range all {
		for _, v := range row {
			b = append(b, value(v)...)
		}
	}
	return b
}

// deep is a type so many deep, with its bytes.
func deep(n int) (api.Option, []byte) {
	o, b := whole, wholeLaid
	for range n - 1 {
		o, b = api.Option{Id: api.List, Kids: []api.Option{o}}, join([]byte{0, 32}, b)
	}
	return o, b
}

// two are columns of one Space and Table, apart are some of several.
func two() []Column {
	return []Column{{"s", "t", "a", whole}, {"s", "t", "b", words}}
}

func apart() []Column {
	return []Column{{"s", "t", "a", own}, {"s", "u", "a", whole}, {"r", "u", "", made}}
}

// samples are tables that are put and got.
func samples() []sample {
	return slices.Concat(emptySamples(), globalSamples(), apartSamples(), bareSamples())
}

// emptySamples are those without columns.
func emptySamples() []sample {
	blank := make([][]api.Value, 3)
	var l []sample
	for _, global := range []bool{false, true} {
		l = append(l,
			sample{Table{}, global, ints(0, 0, 0)},
			sample{Table{Rows: blank}, global, ints(0, 0, 3)},
			sample{Table{More: true, State: null}, global, join(ints(2, 0), nullLaid, ints(0))},
			sample{Table{More: true, State: unset, Rows: blank}, global, join(ints(2, 0), unsetLaid, ints(3))},
			sample{Table{More: true, State: set()}, global, ints(2, 0, 0, 0)},
		)
	}
	return l
}

// globalSamples are those whose Space and Table stand once.
func globalSamples() []sample {
	cols := join(text("s", "t", "a"), wholeLaid, text("b"), wordsLaid)
	return []sample{
		{Table{Count: 1, Columns: []Column{{Type: whole}}}, true, join(ints(1, 1), text("", "", ""), wholeLaid, ints(0))},
		{Table{Count: 2, Columns: two()}, true, join(ints(1, 2), cols, ints(0))},
		{Table{Count: 2, Columns: two(), Rows: [][]api.Value{{set(7), null}}}, true, join(ints(1, 2), cols, ints(1, 1), []byte{7}, nullLaid)},
		{Table{Count: 2, Columns: two(), More: true, State: set(5, 6), Rows: [][]api.Value{{set(), null}, {null, set(1, 2, 3)}}}, true,
			join(ints(3, 2, 2), []byte{5, 6}, cols, ints(2, 0), nullLaid, nullLaid, ints(3), []byte{1, 2, 3})},
		{Table{Count: 2, Columns: two(), More: true, State: unset}, true, join(ints(3, 2), unsetLaid, cols, ints(0))},
	}
}

// apartSamples are those of whose columns each has its Space and Table.
func apartSamples() []sample {
	same := join(text("s", "t", "a"), wholeLaid, text("s", "t", "b"), wordsLaid)
	cols := join(text("s", "t", "a"), ownLaid, text("s", "u", "a"), wholeLaid, text("r", "u", ""), madeLaid)
	rows := [][]api.Value{{null, set(1), set(2, 3)}, {set(), null, set(0)}}
	rowsLaid := join(ints(2), nullLaid, ints(1), []byte{1}, ints(2), []byte{2, 3}, ints(0), nullLaid, ints(1), []byte{0})
	return []sample{
		{Table{Count: 1, Columns: []Column{{Type: own}}}, false, join(ints(0, 1), text("", "", ""), ownLaid, ints(0))},
		{Table{Count: 2, Columns: two(), Rows: [][]api.Value{{null, null}}}, false, join(ints(0, 2), same, ints(1), nullLaid, nullLaid)},
		{Table{Count: 3, Columns: apart(), Rows: rows}, false, join(ints(0, 3), cols, rowsLaid)},
		{Table{Count: 3, Columns: apart(), More: true, State: set(9), Rows: rows}, false, join(ints(2, 3, 1), []byte{9}, cols, rowsLaid)},
		{Table{Count: 3, Columns: apart(), More: true, State: unset}, false, join(ints(2, 3), unsetLaid, cols, ints(0))},
	}
}

// bareSamples are those of a Count, but without columns: global or not is one.
func bareSamples() []sample {
	rows := [][]api.Value{{set(9), null}, {null, set()}}
	rowsLaid := join(ints(2, 1), []byte{9}, nullLaid, nullLaid, ints(0))
	var l []sample
	for _, global := range []bool{false, true} {
		l = append(l,
			sample{Table{Count: 1}, global, ints(4, 1, 0)},
			sample{Table{Count: 1, Rows: [][]api.Value{{set(9)}}}, global, join(ints(4, 1, 1, 1), []byte{9})},
			sample{Table{Count: 2, Rows: rows}, global, join(ints(4, 2), rowsLaid)},
			sample{Table{Count: 2, More: true, State: set(8), Rows: rows}, global, join(ints(6, 2, 1), []byte{8}, rowsLaid)},
			sample{Table{Count: 4096, More: true, State: null}, global, join(ints(6, 4096), nullLaid, ints(0))},
		)
	}
	return l
}

// sameValue tells whether two values are alike; nil and empty bytes are.
func sameValue(x, y api.Value) bool {
	return x.Kind == y.Kind && bytes.Equal(x.Bytes, y.Bytes)
}

// sameRow tells whether two rows have the same values.
func sameRow(x, y []api.Value) bool {
	return slices.EqualFunc(x, y, sameValue)
}

// sameType tells whether two types are alike.
func sameType(x, y api.Option) bool {
	return x.Id == y.Id && x.Space == y.Space && x.Name == y.Name && slices.Equal(x.Names, y.Names) && slices.EqualFunc(x.Kids, y.Kids, sameType)
}

// sameColumn tells whether two columns are alike.
func sameColumn(x, y Column) bool {
	return x.Space == y.Space && x.Table == y.Table && x.Name == y.Name && sameType(x.Type, y.Type)
}

// same tells whether two tables are alike, nil and empty lists being one.
func same(x, y Table) bool {
	return x.Count == y.Count && slices.EqualFunc(x.Columns, y.Columns, sameColumn) && x.More == y.More && sameValue(x.State, y.State) &&
		slices.EqualFunc(x.Rows, y.Rows, sameRow)
}

// sameMeta tells whether the same was prepared.
func sameMeta(x, y Meta) bool {
	return slices.Equal(x.Keys, y.Keys) && same(x.Asks, y.Asks) && same(x.Answers, y.Answers)
}

// copied is a table in new memory.
func copied(t Table) Table {
	t.Columns = slices.Clone(t.Columns)
	for i := range t.Columns {
		t.Columns[i].Type = copiedType(t.Columns[i].Type)
	}
	t.State.Bytes = bytes.Clone(t.State.Bytes)
	t.Rows = slices.Clone(t.Rows)
	for i := range t.Rows {
		t.Rows[i] = slices.Clone(t.Rows[i])
		for k := range t.Rows[i] {
			t.Rows[i][k].Bytes = bytes.Clone(t.Rows[i][k].Bytes)
		}
	}
	return t
}

func copiedType(o api.Option) api.Option {
	o.Names = slices.Clone(o.Names)
	o.Kids = slices.Clone(o.Kids)
	for i := range o.Kids {
		o.Kids[i] = copiedType(o.Kids[i])
	}
	return o
}

// some are the first bytes, as a text that isn't too long to read.
func some(b []byte) string {
	if len(b) > 80 {
		return fmt.Sprintf("%v and %d more", b[:80], len(b)-80)
	}
	return fmt.Sprint(b)
}

// shown is a table, as a text that isn't too long to read.
func shown(t Table) string {
	s := fmt.Sprint(t)
	if len(s) > 300 {
		s = s[:300] + " .."
	}
	return strings.ToValidUTF8(s, "?")
}

// puts fails unless the table's bytes are just these, and it stays as it is.
func puts(t *testing.T, x Table, global bool, want []byte) {
	t.Helper()
	was := copied(x)
	if b, e := Put(x, global); !bytes.Equal(b, want) || e != api.OK {
		t.Fatalf("Put of %s, %v: %s, %d, want %s", shown(x), global, some(b), e, some(want))
	}
	if !same(x, was) {
		t.Fatalf("%s is changed to %s", shown(was), shown(x))
	}
}

// putsNot fails unless putting is this error, and nothing beside it.
func putsNot(t *testing.T, x Table, global bool, want api.Errno) {
	t.Helper()
	if b, e := Put(x, global); len(b) != 0 || e != want {
		t.Fatalf("Put of %s, %v: %s, %d, want %d alone", shown(x), global, some(b), e, want)
	}
}

// putsNeither fails unless putting is this error, be it global or not.
func putsNeither(t *testing.T, x Table, want api.Errno) {
	t.Helper()
	putsNot(t, x, false, want)
	putsNot(t, x, true, want)
}

// gets fails unless just this table is got, of bytes that stay as they are.
func gets(t *testing.T, b []byte, want Table) {
	t.Helper()
	was := bytes.Clone(b)
	if x, e := Get(b); !same(x, want) || e != api.OK {
		t.Fatalf("Get of %s: %s, %d, want %s", some(b), shown(x), e, shown(want))
	}
	if !bytes.Equal(b, was) {
		t.Fatalf("%s is changed to %s", some(was), some(b))
	}
}

// getsNot fails unless getting is this error, and nothing beside it.
func getsNot(t *testing.T, b []byte, want api.Errno) {
	t.Helper()
	if x, e := Get(b); !same(x, Table{}) || e != want {
		t.Fatalf("Get of %s: %s, %d, want %d alone", some(b), shown(x), e, want)
	}
}

// holds fails unless the table is put as these bytes, and got of them.
func holds(t *testing.T, x sample) {
	t.Helper()
	puts(t, x.table, x.global, x.laid)
	gets(t, x.laid, x.table)
}

// P10.1, P10.3, P10.5: ordinary tables, put and got: with columns and without, global and not, with More and without.
func TestSamples(t *testing.T) {
	for _, x := range samples() {
		holds(t, x)
	}
}

// anyText is a short text of any bytes.
func anyText(rnd *rand.Rand) string {
	b := make([]byte, rnd.IntN(4))
	for i := range b {
		b[i] = byte(rnd.Uint32())
	}
	return string(b)
}

// anyValue is one that isn't Unset.
func anyValue(rnd *rand.Rand) api.Value {
	if rnd.IntN(3) == 0 {
		return null
	}
	return set([]byte(anyText(rnd))...)
}

// typeWith is a type with its bytes.
type typeWith struct {
	option api.Option
	laid   []byte
}

func types() []typeWith {
	most, mostLaid := deep(20)
	return []typeWith{{whole, wholeLaid}, {words, wordsLaid}, {own, ownLaid}, {made, madeLaid}, {most, mostLaid}}
}

// anySample is some table, with bytes that are told without the program.
func anySample(rnd *rand.Rand) sample {
	x := sample{table: Table{Count: rnd.IntN(5), More: rnd.IntN(2) == 0}, global: rnd.IntN(2) == 0}
	bare := rnd.IntN(3) == 0
	var cols []byte
	space, name := anyText(rnd), anyText(rnd)
	for i := range x.table.Count {
		if bare {
			break
		}
		if !x.global {
			space, name = anyText(rnd), anyText(rnd)
		}
		if i == 0 || !x.global {
			cols = append(cols, text(space, name)...)
		}
		kind := types()[rnd.IntN(len(types()))]
		c := Column{space, name, anyText(rnd), kind.option}
		x.table.Columns = append(x.table.Columns, c)
		cols = append(cols, join(text(c.Name), kind.laid)...)
	}
	flags := int32(0)
	var state []byte
	if x.global && len(cols) > 0 {
		flags++
	}
	if x.table.More {
		flags += 2
		x.table.State = []api.Value{anyValue(rnd), unset}[rnd.IntN(2)]
		state = value(x.table.State)
	}
	if bare && x.table.Count > 0 {
		flags += 4
	}
	for range rnd.IntN(4) {
		var row []api.Value
		for range x.table.Count {
			row = append(row, anyValue(rnd))
		}
		x.table.Rows = append(x.table.Rows, row)
	}
	x.laid = join(ints(flags, int32(x.table.Count)), state, cols, values(x.table.Rows))
	return x
}

// P10.5: what is put is got, whatever it is.
func TestAnyTable(t *testing.T) {
	rnd := rand.New(rand.NewPCG(10, 5))
	for range 5000 {
		holds(t, anySample(rnd))
	}
}

// P10.5: what is passed over when it is put is all that isn't got.
func TestPassedOver(t *testing.T) {
	x := Table{Count: 1, Columns: []Column{{"s", "t", "a", api.Option{Id: api.Int, Space: long, Name: long}}}, State: wrong,
		Rows: [][]api.Value{{{Kind: api.Null, Bytes: []byte{1}}}}}
	y := Table{Count: 1, Columns: []Column{{"s", "t", "a", whole}}, Rows: [][]api.Value{{null}}}
	for _, global := range []bool{false, true} {
		b, e := Put(x, global)
		if e != api.OK {
			t.Fatal(global, e)
		}
		puts(t, y, global, b)
		gets(t, b, y)
	}
	bare := Table{State: api.Value{Kind: -1, Bytes: []byte{1}}}
	puts(t, bare, false, ints(0, 0, 0))
	more := Table{More: true, State: api.Value{Kind: api.Unset, Bytes: []byte{1}}}
	puts(t, more, false, join(ints(2, 0), unsetLaid, ints(0)))
}
