package rows

import (
	"bytes"
	"math"
	"slices"
	"testing"

	"signalbox/api"
)

// P10.3: which Count may be.
func TestCount(t *testing.T) {
	for _, n := range []int{-1, -2, -4096, math.MinInt, math.MinInt32, 4097, 4098, 65536, math.MaxInt32, math.MaxInt, 1 << 32, 1<<32 + 1} {
		putsNeither(t, Table{Count: n}, api.ErrArg)
		putsNeither(t, Table{Count: n, Columns: two()}, api.ErrArg)
		putsNeither(t, Table{Count: n, Rows: [][]api.Value{{null}}}, api.ErrArg)
		putsNeither(t, Table{Count: n, More: true, State: wrong}, api.ErrArg)
	}
	for _, n := range []int32{1, 2, 255, 256, 4095, 4096} {
		for _, global := range []bool{false, true} {
			holds(t, sample{Table{Count: int(n)}, global, ints(4, n, 0)})
		}
	}
	columns := slices.Repeat([]Column{{"s", "t", "a", whole}}, 4097)
	each := join(text("s", "t", "a"), wholeLaid)
	holds(t, sample{Table{Count: 4096, Columns: columns[1:]}, false, join(ints(0, 4096), bytes.Repeat(each, 4096), ints(0))})
	holds(t, sample{Table{Count: 4096, Columns: columns[1:]}, true, join(ints(1, 4096), text("s", "t"), bytes.Repeat(each[6:], 4096), ints(0))})
	putsNeither(t, Table{Count: 4097, Columns: columns}, api.ErrArg)
	putsNeither(t, Table{Count: 4097, Rows: [][]api.Value{make([]api.Value, 4097)}}, api.ErrArg)
}

// P10.3: Columns are as many as Count, or none.
func TestNumberOfPutColumns(t *testing.T) {
	columns := slices.Repeat([]Column{{"s", "t", "a", whole}}, 6)
	for count := range 6 {
		for n := range 7 {
			x := Table{Count: count, Columns: columns[:n]}
			if n != count && n != 0 {
				putsNeither(t, x, api.ErrArg)
				continue
			}
			for _, global := range []bool{false, true} {
				b, e := Put(x, global)
				if e != api.OK {
					t.Fatal(count, n, global, e)
				}
				gets(t, b, x)
			}
		}
	}
	putsNeither(t, Table{Count: -1, Columns: columns[:1]}, api.ErrArg)
}

// P10.3: how many rows there may be.
func TestNumberOfPutRows(t *testing.T) {
	for _, n := range []int{0, 1, 2, 255, 256, 4095, 4096} {
		holds(t, sample{Table{Rows: make([][]api.Value, n)}, false, ints(0, 0, int32(n))})
		rows := slices.Repeat([][]api.Value{{set(3), null}}, n)
		holds(t, sample{Table{Count: 2, Rows: rows}, true, join(ints(4, 2), values(rows))})
	}
	for _, n := range []int{4097, 4098, 65536} {
		putsNeither(t, Table{Rows: make([][]api.Value, n)}, api.ErrArg)
		putsNeither(t, Table{Count: 1, Rows: slices.Repeat([][]api.Value{{null}}, n)}, api.ErrArg)
	}
}

// P10.3: each row has Count values.
func TestLengthsOfPutRows(t *testing.T) {
	for count := range 4 {
		for n := range 6 {
			if n == count {
				continue
			}
			for place := range 3 {
				rows := make([][]api.Value, 3)
				for i := range rows {
					rows[i] = make([]api.Value, count)
				}
				rows[place] = make([]api.Value, n)
				putsNeither(t, Table{Count: count, Rows: rows}, api.ErrArg)
				putsNeither(t, Table{Count: count, Columns: slices.Repeat([]Column{{Type: whole}}, count), Rows: rows}, api.ErrArg)
			}
		}
	}
}

// P10.3: no value of a row is Unset, nor of a kind that there isn't.
func TestPutWrongValues(t *testing.T) {
	for _, bad := range []api.Value{unset, {Kind: api.Unset, Bytes: []byte{1}}, wrong, {Kind: -1}, {Kind: math.MaxInt}, {Kind: math.MinInt}} {
		for place := range 6 {
			rows := [][]api.Value{{null, set(1)}, {set(), null}, {set(2), set(3)}}
			rows[place/2][place%2] = bad
			putsNeither(t, Table{Count: 2, Rows: rows}, api.ErrArg)
			putsNeither(t, Table{Count: 2, Columns: two(), Rows: rows}, api.ErrArg)
		}
	}
}

// P10.3: a State may be of each kind that there is, and is passed over without More.
func TestPutStates(t *testing.T) {
	for _, state := range []api.Value{null, unset, set(), set(1, 2), set(make([]byte, 70000)...)} {
		holds(t, sample{Table{Count: 1, More: true, State: state}, false, join(ints(6, 1), value(state), ints(0))})
		puts(t, Table{Count: 1, State: state}, false, ints(4, 1, 0))
	}
	for _, kind := range []int{-1, 3, math.MaxInt, math.MinInt} {
		putsNeither(t, Table{Count: 1, More: true, State: api.Value{Kind: kind}}, api.ErrArg)
		puts(t, Table{Count: 1, State: api.Value{Kind: kind}}, false, ints(4, 1, 0))
	}
}

// P10.3: if it is global, all columns have one Space and Table.
func TestSeveralTables(t *testing.T) {
	for place := range 3 {
		for _, other := range []Column{{"s", "u", "a", whole}, {"r", "t", "a", whole}, {"t", "s", "a", whole}, {"", "t", "a", whole}, {"s", "", "a", whole}, {"st", "", "a", whole}, {"S", "t", "a", whole}} {
			x := Table{Count: 3, Columns: slices.Repeat([]Column{{"s", "t", "a", whole}}, 3)}
			x.Columns[place] = other
			putsNot(t, x, true, api.ErrArg)
			laid := ints(0, 3)
			for _, c := range x.Columns {
				laid = append(laid, join(text(c.Space, c.Table, c.Name), wholeLaid)...)
			}
			holds(t, sample{x, false, join(laid, ints(0))})
		}
	}
	// Names and types may be several, or one.
	x := Table{Count: 3, Columns: []Column{{"s", "t", "a", whole}, {"s", "t", "a", own}, {"s", "t", "", whole}}}
	holds(t, sample{x, true, join(ints(1, 3), text("s", "t", "a"), wholeLaid, text("a"), ownLaid, text(""), wholeLaid, ints(0))})
}

// typed is a table of two columns whose second has this type.
func typed(o api.Option) Table {
	return Table{Count: 2, Columns: []Column{{"s", "t", "a", whole}, {"s", "t", "b", o}}}
}

// P10.3: errors of prims and option, of each part that has some.
func TestPutPartErrors(t *testing.T) {
	over, _ := deep(21)
	for _, c := range []struct {
		o api.Option
		e api.Errno
	}{
		{api.Option{Id: 10}, api.ErrArg},
		{api.Option{Id: api.List}, api.ErrArg},
		{api.Option{Id: api.Custom, Name: long}, api.ErrLong},
		{api.Option{Id: api.Tuple, Kids: make([]api.Option, 65536)}, api.ErrLong},
		{over, api.ErrDeep},
	} {
		putsNeither(t, typed(c.o), c.e)
		putsNeither(t, Table{Count: 1, Columns: typed(c.o).Columns[1:]}, c.e)
	}
	for place := range 3 {
		for _, c := range []Column{{long, "t", "a", whole}, {"s", long, "a", whole}, {"s", "t", long, whole}} {
			x := Table{Count: 3, Columns: slices.Repeat([]Column{{"s", "t", "a", whole}}, 3)}
			x.Columns[place] = c
			putsNot(t, x, false, api.ErrLong)
			one := Table{Count: 1, Columns: []Column{c}}
			putsNeither(t, one, api.ErrLong)
		}
	}
	putsNot(t, Table{Count: 2, Columns: slices.Repeat([]Column{{long, "t", "a", whole}}, 2)}, true, api.ErrLong)
	putsNot(t, Table{Count: 2, Columns: slices.Repeat([]Column{{"s", long, "a", whole}}, 2)}, true, api.ErrLong)
	putsNot(t, Table{Count: 2, Columns: []Column{{"s", "t", "a", whole}, {"s", "t", long, whole}}}, true, api.ErrLong)
	most := long[1:]
	holds(t, sample{Table{Count: 1, Columns: []Column{{most, most, most, whole}}}, true, join(ints(1, 1), text(most, most, most), wholeLaid, ints(0))})
	holds(t, sample{Table{Count: 1, Columns: []Column{{most, most, most, whole}}}, false, join(ints(0, 1), text(most, most, most), wholeLaid, ints(0))})
}

// P10.3: what is ErrArg of the table is told ahead of all errors of its parts.
func TestPutArgAheadOfParts(t *testing.T) {
	over, _ := deep(21)
	for _, bad := range []Column{{long, "t", "a", whole}, {"s", "t", "a", over}} {
		cols := []Column{bad, bad}
		ok := Table{Count: 2, Columns: cols}
		_, e := Put(ok, false)
		if e == api.OK || e == api.ErrArg {
			t.Fatal(e)
		}
		putsNeither(t, Table{Count: 3, Columns: cols}, api.ErrArg)
		putsNeither(t, Table{Count: 1, Columns: cols}, api.ErrArg)
		putsNeither(t, Table{Count: 2, Columns: cols, Rows: [][]api.Value{{null, null}, {null}}}, api.ErrArg)
		putsNeither(t, Table{Count: 2, Columns: cols, Rows: [][]api.Value{{null, null}, {null, unset}}}, api.ErrArg)
		putsNeither(t, Table{Count: 2, Columns: cols, Rows: slices.Repeat([][]api.Value{{null, null}}, 4097)}, api.ErrArg)
		several := []Column{bad, {"x", "y", "z", whole}}
		putsNot(t, Table{Count: 2, Columns: several}, true, api.ErrArg)
		putsNot(t, Table{Count: 2, Columns: several}, false, e)
	}
}

// P10.3: of the parts' errors the first one is told, in the order of the bytes.
func TestPutFirstPartError(t *testing.T) {
	over, _ := deep(21)
	wrongRow := [][]api.Value{{wrong}}
	for _, global := range []bool{false, true} {
		// A value of a kind that there isn't stands behind the columns, a State ahead of them.
		putsNot(t, Table{Count: 1, Columns: []Column{{"s", "t", "a", over}}, Rows: wrongRow}, global, api.ErrDeep)
		putsNot(t, Table{Count: 1, Columns: []Column{{"s", "t", long, over}}, Rows: wrongRow}, global, api.ErrLong)
		putsNot(t, Table{Count: 1, Columns: []Column{{"s", long, "a", over}}, Rows: wrongRow}, global, api.ErrLong)
		putsNot(t, Table{Count: 1, Columns: []Column{{long, "t", "a", over}}, Rows: wrongRow}, global, api.ErrLong)
		putsNot(t, Table{Count: 1, Columns: []Column{{long, "t", "a", over}}, More: true, State: wrong}, global, api.ErrArg)
		putsNot(t, Table{Count: 1, Columns: []Column{{"s", "t", "a", over}}, More: true, State: wrong}, global, api.ErrArg)
		putsNot(t, Table{Count: 2, Columns: []Column{{"s", "t", "a", over}, {"s", "t", long, whole}}}, global, api.ErrDeep)
		putsNot(t, Table{Count: 2, Columns: []Column{{"s", "t", long, whole}, {"s", "t", "a", over}}}, global, api.ErrLong)
		putsNot(t, Table{Count: 2, Columns: []Column{{"s", "t", "a", api.Option{Id: 10}}, {"s", "t", long, over}}}, global, api.ErrArg)
	}
	putsNot(t, Table{Count: 2, Columns: []Column{{"s", "t", "a", over}, {long, "t", "a", whole}}}, false, api.ErrDeep)
	putsNot(t, Table{Count: 2, Columns: []Column{{"s", "t", "a", over}, {"s", long, "a", whole}}}, false, api.ErrDeep)
}

// roomy are bytes with much room behind them, which nobody may use.
func roomy(b ...byte) []byte {
	return append(make([]byte, 0, 64), b...)
}

// P10.3: the bytes are new memory, and what is handed in stays as it is.
func TestPutIsNewMemory(t *testing.T) {
	x := Table{Count: 2, Columns: two(), More: true, State: set(roomy(1, 2)...), Rows: [][]api.Value{{set(roomy(3)...), set(roomy(4, 5)...)}}}
	for _, global := range []bool{false, true} {
		b, _ := Put(x, global)
		was := bytes.Clone(b)
		for _, l := range tableLists(x) {
			for i := range l {
				l[i]++
			}
		}
		if !bytes.Equal(b, was) {
			t.Error("the bytes follow the table:", b)
		}
		for i := range b {
			b[i] = 99
		}
		_ = append(b, 99)
		for _, l := range tableLists(x) {
			if slices.Contains(l[:cap(l)], 99) {
				t.Error("the table follows the bytes:", l)
			}
		}
	}
}

// cells are of a table with two columns of one name, and rows of which one ends early.
func cells() Table {
	return Table{
		Count:   4,
		Columns: []Column{{"s", "t", "a", whole}, {"s", "t", "b", whole}, {"r", "u", "a", own}, {"s", "t", "", whole}},
		Rows:    [][]api.Value{{set(1), null, set(3), set()}, {unset, set(6)}, nil, {set(10), set(11), set(12), set(13), set(14)}},
	}
}

// P10.4: cells that there are, of the first column of a name.
func TestCells(t *testing.T) {
	x := cells()
	for _, c := range []struct {
		row  int
		name string
		want api.Value
	}{
		{0, "a", set(1)}, {0, "b", null}, {0, "", set()}, {1, "a", unset}, {1, "b", set(6)}, {3, "a", set(10)}, {3, "b", set(11)}, {3, "", set(13)},
	} {
		if v, there := Cell(x, c.row, c.name); !sameValue(v, c.want) || !there {
			t.Errorf("Cell of %d, %q: %v, %v, want %v", c.row, c.name, v, there, c.want)
		}
	}
	if !same(x, cells()) {
		t.Error("the table is changed:", x)
	}
	if v, there := Cell(Table{Columns: two(), Rows: [][]api.Value{{null, null}, {null, set(5)}}}, 1, "b"); !sameValue(v, set(5)) || !there {
		t.Error("Cell asks for Count:", v, there)
	}
}

// P10.4: a row, a name and a place that there isn't.
func TestNoCells(t *testing.T) {
	x := cells()
	bare := x
	bare.Columns = nil
	for _, c := range []struct {
		table Table
		row   int
		name  string
	}{
		{x, -1, "a"}, {x, math.MinInt, "a"}, {x, 4, "a"}, {x, 5, "a"}, {x, math.MaxInt, "a"}, {x, math.MinInt32, "a"},
		{x, 0, "c"}, {x, 0, "A"}, {x, 0, "a "}, {x, 0, "ab"}, {x, 0, "s"}, {x, 0, "t"}, {x, 3, "u"},
		{x, 1, ""}, {x, 2, "a"}, {x, 2, "b"}, {x, 2, ""},
		{Table{}, 0, ""}, {Table{}, 0, "a"}, {bare, 0, "a"}, {bare, 0, ""}, {Table{Count: 4, Columns: x.Columns}, 0, "a"},
		// The second column of a name isn't asked, though the row has its place, nor is another row.
		{Table{Count: 2, Columns: []Column{{Name: "b"}, {Name: "a"}, {Name: "a"}}, Rows: [][]api.Value{{set(1)}, {set(1), set(2), set(3)}}}, 0, "a"},
	} {
		if v, there := Cell(c.table, c.row, c.name); !sameValue(v, api.Value{}) || there {
			t.Errorf("Cell of %s, %d, %q: %v, %v, want nothing", shown(c.table), c.row, c.name, v, there)
		}
	}
}

// P10.4: of a table that was got, each cell that was put.
func TestCellsOfWhatWasGot(t *testing.T) {
	x := Table{Count: 2, Columns: two(), Rows: [][]api.Value{{set(7), null}, {set(), set(8, 9)}}}
	b, _ := Put(x, true)
	y, _ := Get(b)
	for row := range x.Rows {
		for place, c := range x.Columns {
			if v, there := Cell(y, row, c.Name); !sameValue(v, x.Rows[row][place]) || !there {
				t.Errorf("Cell of %d, %q: %v, %v", row, c.Name, v, there)
			}
		}
	}
}

// P10.4: the value is new memory.
func TestCellIsNewMemory(t *testing.T) {
	x := cells()
	v, _ := Cell(x, 3, "a")
	v.Bytes[0] = 99
	_ = append(v.Bytes, 99)
	if !same(x, cells()) {
		t.Error("the table follows the value:", x)
	}
	v, _ = Cell(x, 3, "a")
	x.Rows[3][0].Bytes[0] = 98
	if !sameValue(v, set(10)) {
		t.Error("the value follows the table:", v)
	}
}
