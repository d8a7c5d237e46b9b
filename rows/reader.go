package rows

import (
	"signalbox/api"
	"signalbox/octets"
	"signalbox/option"
	"signalbox/prims"
)

// reader reads parts one behind the other. Its first error stays, and behind it all that is read is nothing, so that whoever reads need not ask behind each part.
type reader struct {
	rest  []byte
	first api.Errno
}

// fail keeps an error, unless there is one already.
func (in *reader) fail(e api.Errno) {
	if in.first == api.OK {
		in.first = e
	}
}

// read is the next part, as get gets it off the beginning.
func read[T any](in *reader, get func([]byte) (T, []byte, api.Errno)) T {
	var part T
	if in.first == api.OK {
		part, in.rest, in.first = get(in.rest)
	}
	return part
}

// end fails if bytes are left.
func (in *reader) end() {
	if len(in.rest) > 0 {
		in.fail(api.ErrBody)
	}
}

// number is the next int.
func (in *reader) number() int {
	return int(octets.Signed(read(in, getInt), intBytes))
}

// many is how many there are of what stands behind: none, if there may not be as many.
func (in *reader) many() int {
	n := in.number()
	switch {
	case n < 0:
		in.fail(api.ErrForm)
		return 0
	case n > api.MaxItems:
		in.fail(api.ErrLong)
		return 0
	}
	return n
}

// head are flags, and how many columns there are.
func (in *reader) head() (int, int) {
	flags := in.number()
	if flags < 0 || flags > allFlags {
		in.fail(api.ErrFlags)
	}
	return flags, in.many()
}

// keys are the places of values that make the routing key; each has to be below count.
func (in *reader) keys(count int) []uint16 {
	var l []uint16
	wrong := false
	for range in.many() {
		key := uint16(read(in, getShort))
		wrong = wrong || int(key) >= count
		l = append(l, key)
	}
	// Bytes that end within the keys are told ahead of a wrong key.
	if wrong {
		in.fail(api.ErrForm)
	}
	return l
}

// table is what stands behind the head of so many columns, without rows.
func (in *reader) table(flags, count int) Table {
	t := Table{Count: count, More: flags&hasMore != 0}
	if t.More {
		t.State = read(in, prims.GetValue)
	}
	if flags&hasNoColumns == 0 {
		t.Columns = in.columns(count, flags&isGlobal != 0)
	}
	return t
}

// columns are so many; global: what they are of stands once, ahead of them, even if there are none.
func (in *reader) columns(count int, global bool) []Column {
	var c Column
	if global {
		in.owner(&c)
	}
	var l []Column
	for range count {
		if !global {
			in.owner(&c)
		}
		c.Name = read(in, prims.GetText)
		c.Type = read(in, option.Get)
		if in.first != api.OK {
			return nil
		}
		l = append(l, c)
	}
	return l
}

// owner is what a column is of: a space and a table.
func (in *reader) owner(c *Column) {
	c.Space = read(in, prims.GetText)
	c.Table = read(in, prims.GetText)
}

// rows are those whose number stands ahead, of so many values each.
func (in *reader) rows(count int) [][]api.Value {
	var all [][]api.Value
reading:
	for range in.many() {
		var row []api.Value
		for range count {
			v := read(in, prims.GetValue)
			if isUnset(v) {
				in.fail(api.ErrForm)
			}
			if in.first != api.OK {
				break reading
			}
			row = append(row, v)
		}
		all = append(all, row)
	}
	return all
}

// getInt are the four bytes of the int at the beginning, whose sign is not told yet, and what is behind.
func getInt(b []byte) (uint64, []byte, api.Errno) {
	return octets.Get(b, intBytes)
}

// getShort is the short at the beginning, and what is behind.
func getShort(b []byte) (uint64, []byte, api.Errno) {
	return octets.Get(b, shortBytes)
}
