package option

import (
	"bytes"
	"math"
	"slices"
	"strings"
	"testing"

	"signalbox/api"
)

// tails are what may stand behind; some of them would be read on as a type, a text or a number of Kids.
var tails = [][]byte{nil, {0}, {255}, {0, 9}, {0, 1, 97}, {0, 32, 0, 9}, {0, 10}}

// fits and tooLong are the longest text that a short can tell, and one byte more.
var (
	fits    = strings.Repeat("q", 65535)
	tooLong = strings.Repeat("q", 65536)
)

// plain are the plain types, by the numbers and names that the document lists.
var plain = map[uint16]string{
	1: "ascii", 2: "bigint", 3: "blob", 4: "boolean", 5: "counter", 6: "decimal", 7: "double", 8: "float", 9: "int",
	11: "timestamp", 12: "uuid", 13: "varchar", 14: "varint", 15: "timeuuid", 16: "inet", 17: "date", 18: "time",
	19: "smallint", 20: "tinyint",
}

// made are the Ids of types that aren't plain.
var made = []uint16{0, 32, 33, 34, 48, 49}

// Two types that may be, one whose Id is none, and one that is too long to be put.
var (
	anInt    = api.Option{Id: 9}
	aBlob    = api.Option{Id: 3}
	noId     = api.Option{Id: 10}
	longName = api.Option{Id: 0, Name: tooLong}
)

func custom(name string) api.Option       { return api.Option{Id: 0, Name: name} }
func list(kids ...api.Option) api.Option  { return api.Option{Id: 32, Kids: kids} }
func dict(kids ...api.Option) api.Option  { return api.Option{Id: 33, Kids: kids} }
func set(kids ...api.Option) api.Option   { return api.Option{Id: 34, Kids: kids} }
func tuple(kids ...api.Option) api.Option { return api.Option{Id: 49, Kids: kids} }
func field(kid api.Option) api.Option     { return udt("s", "n", fields("f"), kid) }
func fields(names ...string) []string     { return names }

func udt(space, name string, names []string, kids ...api.Option) api.Option {
	return api.Option{Id: 48, Space: space, Name: name, Names: names, Kids: kids}
}

// joined are bytes one behind the other, in new memory.
func joined(parts ...[]byte) []byte {
	return bytes.Join(parts, nil)
}

// many is a list of n times one item.
func many[T any](item T, n int) []T {
	return slices.Repeat([]T{item}, n)
}

// nested is a type within n lists.
func nested(n int, o api.Option) api.Option {
	return wrapped(n, o, func(o api.Option) api.Option { return list(o) })
}

// nestedBytes are bytes behind the Ids of n lists.
func nestedBytes(n int, behind []byte) []byte {
	return joined(bytes.Repeat([]byte{0, 32}, n), behind)
}

// wrapped is a type within n others.
func wrapped(n int, o api.Option, wrap func(api.Option) api.Option) api.Option {
	for range n {
		o = wrap(o)
	}
	return o
}

// wraps are all the ways in which one type stands within another.
func wraps() map[string]func(api.Option) api.Option {
	return map[string]func(api.Option) api.Option{
		"list":      func(o api.Option) api.Option { return list(o) },
		"set":       func(o api.Option) api.Option { return set(o) },
		"map's 1st": func(o api.Option) api.Option { return dict(o, anInt) },
		"map's 2nd": func(o api.Option) api.Option { return dict(anInt, o) },
		"udt":       field,
		"udt's 3rd": func(o api.Option) api.Option { return udt("s", "n", fields("f", "g", "h"), anInt, aBlob, o) },
		"tuple":     func(o api.Option) api.Option { return tuple(o) },
		"tuple 3rd": func(o api.Option) api.Option { return tuple(anInt, aBlob, o, anInt) },
	}
}

// same tells whether two types are alike; nil and empty lists are.
func same(a, b api.Option) bool {
	return a.Id == b.Id && a.Space == b.Space && a.Name == b.Name &&
		slices.Equal(a.Names, b.Names) && slices.EqualFunc(a.Kids, b.Kids, same)
}

// begin are the first bytes, so that what is told of long ones stays short.
func begin(b []byte) []byte {
	return b[:min(len(b), 48)]
}

// isPut fails unless the type is put as just these bytes.
func isPut(t *testing.T, o api.Option, want ...byte) {
	t.Helper()
	if b, e := Put(o); !bytes.Equal(b, want) || e != api.OK {
		t.Errorf("Put of %d: %v (%d bytes), %d, want %v (%d bytes)", o.Id, begin(b), len(b), e, begin(want), len(want))
	}
}

// isNotPut fails unless putting the type is this error, and nothing else.
func isNotPut(t *testing.T, o api.Option, want api.Errno) {
	t.Helper()
	if b, e := Put(o); len(b) != 0 || e != want {
		t.Errorf("Put of %d, %d Kids, %d Names: %d bytes, %d, want %d", o.Id, len(o.Kids), len(o.Names), len(b), e, want)
	}
}

// isGot fails unless the bytes are just this type, whatever is behind; what is behind is of the bytes themselves.
func isGot(t *testing.T, b []byte, want api.Option) {
	t.Helper()
	for _, tail := range tails {
		whole := joined(b, tail)
		was := bytes.Clone(whole)
		o, rest, e := Get(whole)
		if !same(o, want) || !bytes.Equal(rest, tail) || e != api.OK {
			t.Errorf("Get of %v (%d bytes): Id %d, %v behind, %d, want Id %d, %v", begin(whole), len(whole), o.Id, begin(rest), e, want.Id, tail)
		}
		if len(rest) > 0 && &rest[0] != &whole[len(b)] {
			t.Error("what is behind is not of the bytes themselves")
		}
		if !bytes.Equal(whole, was) {
			t.Error("the bytes are changed")
		}
	}
}

// isNotGot fails unless the bytes are this error, and nothing else.
func isNotGot(t *testing.T, b []byte, want api.Errno) {
	t.Helper()
	if o, rest, e := Get(b); !same(o, api.Option{}) || len(rest) != 0 || e != want {
		t.Errorf("Get of %v (%d bytes): Id %d, %d bytes behind, %d, want %d", begin(b), len(b), o.Id, len(rest), e, want)
	}
}

// isShort fails unless the bytes are a type, and ErrShort wherever they are cut off; room behind their length doesn't count.
func isShort(t *testing.T, whole []byte) {
	t.Helper()
	for n := range whole {
		isNotGot(t, whole[:n], api.ErrShort)
	}
	if _, rest, e := Get(whole); len(rest) != 0 || e != api.OK {
		t.Errorf("Get of all of %v: %d bytes behind, %d", begin(whole), len(rest), e)
	}
}

// isText fails unless the type is told as just this text.
func isText(t *testing.T, o api.Option, want string) {
	t.Helper()
	if s, e := Text(o); s != want || e != api.OK {
		t.Errorf("Text of %d: %q, %d, want %q", o.Id, begin([]byte(s)), e, begin([]byte(want)))
	}
}

// isNoText fails unless telling the type is this error, and nothing else.
func isNoText(t *testing.T, o api.Option, want api.Errno) {
	t.Helper()
	if s, e := Text(o); s != "" || e != want {
		t.Errorf("Text of %d, %d Kids, %d Names: %q, %d, want %d", o.Id, len(o.Kids), len(o.Names), begin([]byte(s)), e, want)
	}
}

// isNone tells whether no type has the Id.
func isNone(id int) bool {
	return plain[uint16(id)] == "" && !slices.Contains(made, uint16(id))
}

// P4.1: a plain type is its Id, and nothing else.
func TestPutPlain(t *testing.T) {
	for id := range plain {
		isPut(t, api.Option{Id: id}, 0, byte(id))
		isPut(t, api.Option{Id: id, Names: []string{}, Kids: []api.Option{}}, 0, byte(id))
	}
	if len(plain) != 19 {
		t.Error(len(plain), "plain types")
	}
}

// P4.1: types that have a text, one Kid or two.
func TestPutMade(t *testing.T) {
	isPut(t, custom("ab"), 0, 0, 0, 2, 97, 98)
	isPut(t, custom(""), 0, 0, 0, 0)
	isPut(t, custom("\x00\xff"), 0, 0, 0, 2, 0, 255)
	isPut(t, list(anInt), 0, 32, 0, 9)
	isPut(t, set(anInt), 0, 34, 0, 9)
	isPut(t, dict(anInt, aBlob), 0, 33, 0, 9, 0, 3)
	isPut(t, dict(aBlob, anInt), 0, 33, 0, 3, 0, 9)
	isPut(t, list(custom("a")), 0, 32, 0, 0, 0, 1, 97)
	isPut(t, dict(list(anInt), dict(set(aBlob), custom("a"))), 0, 33, 0, 32, 0, 9, 0, 33, 0, 34, 0, 3, 0, 0, 0, 1, 97)
}

// P4.1: a Udt is Space, Name, how many, and of each its name ahead of it; a Tuple is how many, and each.
func TestPutCounted(t *testing.T) {
	isPut(t, udt("", "", nil), 0, 48, 0, 0, 0, 0, 0, 0)
	isPut(t, udt("s", "nm", nil), 0, 48, 0, 1, 115, 0, 2, 110, 109, 0, 0)
	isPut(t, udt("s", "n", fields("f"), aBlob), 0, 48, 0, 1, 115, 0, 1, 110, 0, 1, 0, 1, 102, 0, 3)
	isPut(t, udt("s", "n", fields("g", "", "g"), aBlob, list(anInt), aBlob),
		0, 48, 0, 1, 115, 0, 1, 110, 0, 3, 0, 1, 103, 0, 3, 0, 0, 0, 32, 0, 9, 0, 1, 103, 0, 3)
	isPut(t, tuple(), 0, 49, 0, 0)
	isPut(t, tuple(anInt), 0, 49, 0, 1, 0, 9)
	isPut(t, tuple(anInt, tuple(), custom("a"), anInt), 0, 49, 0, 4, 0, 9, 0, 49, 0, 0, 0, 0, 0, 1, 97, 0, 9)
	isPut(t, udt("", "", fields(""), udt("", "", nil)), 0, 48, 0, 0, 0, 0, 0, 1, 0, 0, 0, 48, 0, 0, 0, 0, 0, 0)
}

// P4.1: as many Kids as a short can tell, and one more.
func TestPutHowMany(t *testing.T) {
	for _, n := range []int{255, 256, 65535} {
		count := []byte{byte(n >> 8), byte(n)}
		isPut(t, tuple(many(anInt, n)...), joined([]byte{0, 49}, count, bytes.Repeat([]byte{0, 9}, n))...)
		isPut(t, udt("s", "n", many("", n), many(anInt, n)...),
			joined([]byte{0, 48, 0, 1, 115, 0, 1, 110}, count, bytes.Repeat([]byte{0, 0, 0, 9}, n))...)
	}
	for _, n := range []int{65536, 65537, 1 << 17} {
		isNotPut(t, tuple(many(anInt, n)...), api.ErrLong)
		isNotPut(t, udt("s", "n", many("", n), many(anInt, n)...), api.ErrLong)
		isNotPut(t, list(tuple(many(anInt, n)...)), api.ErrLong)
		isNotPut(t, field(udt("s", "n", many("", n), many(anInt, n)...)), api.ErrLong)
	}
}

// P4.1: every Id that is none, whatever else it has, alone and within others.
func TestPutNoId(t *testing.T) {
	for id := range math.MaxUint16 + 1 {
		if !isNone(id) {
			continue
		}
		o := api.Option{Id: uint16(id), Space: "s", Name: "n"}
		isNotPut(t, o, api.ErrArg)
		isNotPut(t, list(o), api.ErrArg)
		o.Kids = []api.Option{anInt}
		isNotPut(t, o, api.ErrArg)
		o.Names = []string{"f"}
		isNotPut(t, o, api.ErrArg)
		o.Kids = append(o.Kids, anInt)
		isNotPut(t, o, api.ErrArg)
	}
}

// wanted tells whether a type with that Id may have so many Kids and Names.
func wanted(id uint16, kids, names int) bool {
	switch id {
	case 32, 34:
		return kids == 1 && names == 0
	case 33:
		return kids == 2 && names == 0
	case 48:
		return kids == names
	case 49:
		return names == 0
	}
	return kids == 0 && names == 0
}

// P4.1, P4.3: each type with too few and with too many Kids and Names, alone and within others.
func TestPartsThatMayNotBe(t *testing.T) {
	ids := slices.Clone(made)
	for id := range plain {
		ids = append(ids, id)
	}
	for _, id := range ids {
		for kids := range 5 {
			for names := range 5 {
				o := api.Option{Id: id, Kids: many(anInt, kids), Names: many("f", names)}
				e := api.ErrArg
				if wanted(id, kids, names) {
					e = api.OK
				}
				if b, got := Put(o); got != e || (len(b) == 0) != (e != api.OK) {
					t.Errorf("Put of %d, %d Kids, %d Names: %v, %d", id, kids, names, b, got)
				}
				if s, got := Text(o); got != e || (s == "") != (e != api.OK) {
					t.Errorf("Text of %d, %d Kids, %d Names: %q, %d", id, kids, names, s, got)
				}
				if e == api.OK {
					continue
				}
				for _, wrap := range wraps() {
					isNotPut(t, wrap(o), api.ErrArg)
					isNoText(t, wrap(o), api.ErrArg)
				}
			}
		}
	}
	isNotPut(t, udt("s", "n", many("f", 65536), many(anInt, 65535)...), api.ErrArg)
	isNotPut(t, api.Option{Id: 49, Names: many("f", 65536), Kids: many(anInt, 65536)}, api.ErrArg)
}

// P4.1: texts that are as long as may be, and one byte longer, in each place that has one.
func TestPutLongTexts(t *testing.T) {
	long := joined([]byte{255, 255}, []byte(fits))
	isPut(t, custom(fits), joined([]byte{0, 0}, long)...)
	isPut(t, udt(fits, "", nil), joined([]byte{0, 48}, long, []byte{0, 0, 0, 0})...)
	isPut(t, udt("", fits, nil), joined([]byte{0, 48, 0, 0}, long, []byte{0, 0})...)
	isPut(t, udt("", "", fields("f", fits), anInt, aBlob), joined([]byte{0, 48, 0, 0, 0, 0, 0, 2, 0, 1, 102, 0, 9}, long, []byte{0, 3})...)
	for _, o := range []api.Option{
		custom(tooLong),
		udt(tooLong, "n", nil),
		udt("s", tooLong, nil),
		udt(tooLong, tooLong, nil),
		udt("s", "n", fields(tooLong), anInt),
		udt("s", "n", fields("f", tooLong), anInt, anInt),
		udt("s", "n", fields("f", tooLong, "g"), anInt, anInt, anInt),
	} {
		isNotPut(t, o, api.ErrLong)
		for _, wrap := range wraps() {
			isNotPut(t, wrap(o), api.ErrLong)
		}
	}
}

// P4.1, P4.3: Space and Name of types that have none are free, and not put nor told.
func TestFreeTexts(t *testing.T) {
	for _, s := range []string{"x", tooLong} {
		isPut(t, api.Option{Id: 9, Space: s, Name: s}, 0, 9)
		isText(t, api.Option{Id: 9, Space: s, Name: s}, "int")
		isPut(t, api.Option{Id: 0, Space: s, Name: "a"}, 0, 0, 0, 1, 97)
		isText(t, api.Option{Id: 0, Space: s, Name: "a"}, "'a'")
		for _, o := range []api.Option{list(anInt), set(anInt), dict(anInt, aBlob), tuple(anInt, aBlob), tuple()} {
			free := o
			free.Space, free.Name = s, s
			b, _ := Put(o)
			isPut(t, free, b...)
			text, _ := Text(o)
			isText(t, free, text)
		}
	}
}

// P4.1, P4.3: 20 deep may be, 21 deep may not, whichever way types stand within others.
func TestDepth(t *testing.T) {
	isPut(t, nested(19, anInt), nestedBytes(19, []byte{0, 9})...)
	isText(t, nested(19, anInt), strings.Repeat("list<", 19)+"int"+strings.Repeat(">", 19))
	for what, wrap := range wraps() {
		for _, inner := range []api.Option{anInt, custom("a"), tuple(), udt("s", "n", nil)} {
			if b, e := Put(wrapped(19, inner, wrap)); len(b) == 0 || e != api.OK {
				t.Error(what, len(b), e)
			}
			if s, e := Text(wrapped(19, inner, wrap)); s == "" || e != api.OK {
				t.Error(what, s, e)
			}
			for _, n := range []int{20, 21, 40, 1000} {
				isNotPut(t, wrapped(n, inner, wrap), api.ErrDeep)
				isNoText(t, wrapped(n, inner, wrap), api.ErrDeep)
			}
		}
	}
	isNotPut(t, nested(1<<16-1, anInt), api.ErrDeep)
	isNoText(t, nested(1<<16-1, anInt), api.ErrDeep)
}

// P4.1, P4.3: that a type is too deep is told ahead of all that may not be, and of Kids that no such type has too.
func TestDeepIsFirst(t *testing.T) {
	deep, almost := nested(20, anInt), nested(19, anInt)
	for _, o := range []api.Option{
		deep,
		nested(20, noId),
		nested(20, longName),
		{Id: 9, Kids: []api.Option{almost}},
		{Id: 10, Kids: []api.Option{almost}},
		{Id: 0, Name: tooLong, Kids: []api.Option{noId, almost}},
		{Id: 32, Kids: []api.Option{noId, anInt, almost}},
		{Id: 48, Space: tooLong, Kids: []api.Option{almost}},
		udt(tooLong, tooLong, fields(tooLong), almost),
		dict(noId, almost),
		dict(almost, noId),
		tuple(noId, longName, almost),
		tuple(append(many(anInt, 65536), almost)...),
		udt("s", "n", many("f", 65536), append(many(anInt, 65535), almost)...),
	} {
		isNotPut(t, o, api.ErrDeep)
		isNoText(t, o, api.ErrDeep)
	}
	isNotPut(t, api.Option{Id: 9, Kids: []api.Option{nested(18, anInt)}}, api.ErrArg)
	isNoText(t, api.Option{Id: 9, Kids: []api.Option{nested(18, anInt)}}, api.ErrArg)
	isNotPut(t, nested(19, noId), api.ErrArg)
	isNoText(t, nested(19, noId), api.ErrArg)
	isNotPut(t, nested(19, longName), api.ErrLong)
}

// P4.1, P4.3: a type that is within itself is too deep.
func TestWithinItself(t *testing.T) {
	kids := many(api.Option{Id: 49}, 3)
	kids[1].Kids = kids
	isNotPut(t, tuple(kids...), api.ErrDeep)
	isNoText(t, tuple(kids...), api.ErrDeep)
}

// P4.1: of two wrong parts the first one's error is told: all that is a type's own ahead of its Kids, but the name of a field just ahead of its Kid.
func TestPutFirstError(t *testing.T) {
	tooMany := tuple(many(anInt, 65536)...)
	for _, c := range []struct {
		o api.Option
		e api.Errno
	}{
		{dict(noId, longName), api.ErrArg},
		{dict(longName, noId), api.ErrLong},
		{dict(tooMany, noId), api.ErrLong},
		{dict(noId, tooMany), api.ErrArg},
		{dict(list(list(noId)), longName), api.ErrArg},
		{dict(list(list(longName)), noId), api.ErrLong},
		{tuple(anInt, noId, longName), api.ErrArg},
		{tuple(anInt, longName, noId), api.ErrLong},
		{api.Option{Id: 0, Name: tooLong, Kids: []api.Option{anInt}}, api.ErrArg},
		{api.Option{Id: 0, Name: tooLong, Names: []string{"f"}}, api.ErrArg},
		{api.Option{Id: 10, Name: tooLong, Space: tooLong}, api.ErrArg},
		{list(longName, anInt), api.ErrArg},
		{dict(longName), api.ErrArg},
		{api.Option{Id: 49, Names: []string{"f"}, Kids: []api.Option{longName}}, api.ErrArg},
		{udt(tooLong, tooLong, fields("f")), api.ErrArg},
		{udt(tooLong, "n", nil, anInt), api.ErrArg},
		{udt("s", "n", fields(tooLong, "g"), longName), api.ErrArg},
		{udt(tooLong, "n", fields("f"), noId), api.ErrLong},
		{udt("s", tooLong, fields("f"), noId), api.ErrLong},
		{udt("s", "n", fields(tooLong), noId), api.ErrLong},
		{udt("s", "n", fields("f", tooLong), noId, anInt), api.ErrArg},
		{udt("s", "n", fields("f", tooLong), anInt, noId), api.ErrLong},
		{udt("s", "n", fields("f", "g"), longName, noId), api.ErrLong},
		{udt("s", "n", fields("f", "g"), noId, longName), api.ErrArg},
		{udt("s", "n", many("f", 65536), many(noId, 65536)...), api.ErrLong},
		{tuple(many(noId, 65536)...), api.ErrLong},
		{tuple(many(noId, 65535)...), api.ErrArg},
		{udt("s", "n", many("f", 65536), many(noId, 65535)...), api.ErrArg},
	} {
		isNotPut(t, c.o, c.e)
		for _, wrap := range wraps() {
			isNotPut(t, wrap(c.o), c.e)
		}
	}
}

// P4.2: types of every kind, with what is behind.
func TestGet(t *testing.T) {
	for id := range plain {
		isGot(t, []byte{0, byte(id)}, api.Option{Id: id})
	}
	isGot(t, []byte{0, 0, 0, 2, 97, 98}, custom("ab"))
	isGot(t, []byte{0, 0, 0, 0}, custom(""))
	isGot(t, []byte{0, 32, 0, 9}, list(anInt))
	isGot(t, []byte{0, 34, 0, 9}, set(anInt))
	isGot(t, []byte{0, 33, 0, 9, 0, 3}, dict(anInt, aBlob))
	isGot(t, []byte{0, 33, 0, 32, 0, 9, 0, 33, 0, 34, 0, 3, 0, 0, 0, 1, 97}, dict(list(anInt), dict(set(aBlob), custom("a"))))
	isGot(t, []byte{0, 48, 0, 0, 0, 0, 0, 0}, udt("", "", nil))
	isGot(t, []byte{0, 48, 0, 1, 115, 0, 2, 110, 109, 0, 0}, udt("s", "nm", nil))
	isGot(t, []byte{0, 48, 0, 1, 115, 0, 1, 110, 0, 3, 0, 1, 103, 0, 3, 0, 0, 0, 32, 0, 9, 0, 1, 102, 0, 3},
		udt("s", "n", fields("g", "", "f"), aBlob, list(anInt), aBlob))
	isGot(t, []byte{0, 49, 0, 0}, tuple())
	isGot(t, []byte{0, 49, 0, 4, 0, 9, 0, 49, 0, 0, 0, 0, 0, 1, 97, 0, 3}, tuple(anInt, tuple(), custom("a"), aBlob))
}

// P4.2: texts and lists that are as long as a short can tell, and the same without their last byte.
func TestGetLong(t *testing.T) {
	long := joined([]byte{255, 255}, []byte(fits))
	for _, c := range []struct {
		b []byte
		o api.Option
	}{
		{joined([]byte{0, 0}, long), custom(fits)},
		{joined([]byte{0, 48}, long, []byte{0, 0, 0, 0}), udt(fits, "", nil)},
		{joined([]byte{0, 48, 0, 0}, long, []byte{0, 0}), udt("", fits, nil)},
		{joined([]byte{0, 48, 0, 0, 0, 0, 0, 1}, long, []byte{0, 9}), udt("", "", fields(fits), anInt)},
		{joined([]byte{0, 49, 1, 0}, bytes.Repeat([]byte{0, 9}, 256)), tuple(many(anInt, 256)...)},
		{joined([]byte{0, 49, 255, 255}, bytes.Repeat([]byte{0, 9}, 65535)), tuple(many(anInt, 65535)...)},
		{joined([]byte{0, 48, 0, 0, 0, 0, 255, 255}, bytes.Repeat([]byte{0, 1, 102, 0, 3}, 65535)), udt("", "", many("f", 65535), many(aBlob, 65535)...)},
	} {
		isGot(t, c.b, c.o)
		isNotGot(t, c.b[:len(c.b)-1], api.ErrShort)
	}
}

// P4.2: bytes that end too early, in each part of each kind of type.
func TestGetShort(t *testing.T) {
	isNotGot(t, nil, api.ErrShort)
	isNotGot(t, []byte{}, api.ErrShort)
	isNotGot(t, make([]byte, 1, 64), api.ErrShort)
	for id := range plain {
		isShort(t, []byte{0, byte(id)})
	}
	isShort(t, []byte{0, 0, 0, 3, 97, 98, 99})
	isShort(t, []byte{0, 32, 0, 9})
	isShort(t, []byte{0, 34, 0, 0, 0, 1, 97})
	isShort(t, []byte{0, 33, 0, 9, 0, 34, 0, 3})
	isShort(t, []byte{0, 48, 0, 0, 0, 0, 0, 0})
	isShort(t, []byte{0, 48, 0, 2, 115, 116, 0, 2, 110, 109, 0, 2, 0, 2, 102, 103, 0, 3, 0, 1, 104, 0, 32, 0, 9})
	isShort(t, []byte{0, 49, 0, 0})
	isShort(t, []byte{0, 49, 0, 3, 0, 9, 0, 49, 0, 1, 0, 3, 0, 0, 0, 1, 97})
	isShort(t, []byte{0, 33, 0, 48, 0, 1, 115, 0, 0, 0, 1, 0, 1, 102, 0, 49, 0, 1, 0, 9, 0, 0, 0, 1, 97})
	isNotGot(t, []byte{0, 49, 255, 255}, api.ErrShort)
	isNotGot(t, []byte{0, 48, 0, 0, 0, 0, 255, 255}, api.ErrShort)
	isNotGot(t, []byte{0, 49, 255, 255, 0, 9}, api.ErrShort)
	isNotGot(t, []byte{0, 0, 255, 255, 97}, api.ErrShort)
}

// P4.2: every Id that is none, alone and within others, whether anything is behind or not.
func TestGetNoId(t *testing.T) {
	for id := range math.MaxUint16 + 1 {
		if !isNone(id) {
			continue
		}
		b := []byte{byte(id >> 8), byte(id)}
		isNotGot(t, b, api.ErrForm)
		isNotGot(t, joined(b, []byte{0, 1, 97, 0, 9}), api.ErrForm)
		isNotGot(t, joined([]byte{0, 32}, b), api.ErrForm)
		isNotGot(t, joined([]byte{0, 33, 0, 9}, b), api.ErrForm)
		isNotGot(t, joined([]byte{0, 33}, b, []byte{0, 9}), api.ErrForm)
		isNotGot(t, joined([]byte{0, 34}, b), api.ErrForm)
		isNotGot(t, joined([]byte{0, 48, 0, 0, 0, 0, 0, 1, 0, 1, 102}, b), api.ErrForm)
		isNotGot(t, joined([]byte{0, 49, 0, 2, 0, 9}, b), api.ErrForm)
		isNotGot(t, nestedBytes(19, b), api.ErrForm)
	}
}

// P4.2: 20 deep may be; what is 21 deep is told ahead of reading it, whether it is there, and one, or not.
func TestGetDepth(t *testing.T) {
	isGot(t, nestedBytes(19, []byte{0, 9}), nested(19, anInt))
	isGot(t, nestedBytes(19, []byte{0, 0, 0, 1, 97}), nested(19, custom("a")))
	isGot(t, nestedBytes(19, []byte{0, 49, 0, 0}), nested(19, tuple()))
	isGot(t, nestedBytes(19, []byte{0, 48, 0, 0, 0, 0, 0, 0}), nested(19, udt("", "", nil)))
	isShort(t, nestedBytes(19, []byte{0, 9}))
	for _, behind := range [][]byte{nil, {0}, {0, 9}, {0, 10}, {255, 255}, {0, 0, 0, 1}, {0, 32}} {
		isNotGot(t, nestedBytes(20, behind), api.ErrDeep)
		isNotGot(t, nestedBytes(19, joined([]byte{0, 34}, behind)), api.ErrDeep)
		isNotGot(t, nestedBytes(19, joined([]byte{0, 33}, behind)), api.ErrDeep)
		isNotGot(t, nestedBytes(19, joined([]byte{0, 49, 0, 1}, behind)), api.ErrDeep)
		isNotGot(t, nestedBytes(19, joined([]byte{0, 49, 255, 255}, behind)), api.ErrDeep)
		isNotGot(t, nestedBytes(19, joined([]byte{0, 48, 0, 0, 0, 0, 0, 1, 0, 1, 102}, behind)), api.ErrDeep)
	}
	isNotGot(t, nestedBytes(1<<16, nil), api.ErrDeep)
	isShort(t, nestedBytes(19, []byte{0, 48, 0, 1, 115, 0, 1, 110, 0, 0}))
	isNotGot(t, nestedBytes(19, []byte{0, 48, 0, 0, 0, 0, 0, 1}), api.ErrShort)
	isNotGot(t, nestedBytes(19, []byte{0, 48, 0, 0, 0, 0, 0, 1, 0, 2, 102}), api.ErrShort)
	isNotGot(t, nestedBytes(19, []byte{0, 49, 0}), api.ErrShort)
}

// P4.2: each way in which types stand within others counts as one deeper, and only that.
func TestGetDepthOfAllKinds(t *testing.T) {
	for what, ahead := range map[string][]byte{
		"list":      {0, 32},
		"set":       {0, 34},
		"map's 2nd": {0, 33, 0, 9},
		"udt":       {0, 48, 0, 1, 115, 0, 1, 110, 0, 1, 0, 1, 102},
		"udt's 2nd": {0, 48, 0, 1, 115, 0, 1, 110, 0, 2, 0, 1, 102, 0, 3, 0, 0},
		"tuple":     {0, 49, 0, 1},
		"tuple 3rd": {0, 49, 0, 3, 0, 9, 0, 3},
	} {
		if o, rest, e := Get(joined(bytes.Repeat(ahead, 19), []byte{0, 9, 7})); len(o.Kids) == 0 || !bytes.Equal(rest, []byte{7}) || e != api.OK {
			t.Error(what, o.Id, rest, e)
		}
		isNotGot(t, joined(bytes.Repeat(ahead, 19), []byte{0}), api.ErrShort)
		isNotGot(t, joined(bytes.Repeat(ahead, 19), []byte{0, 10}), api.ErrForm)
		for _, behind := range [][]byte{nil, {0, 9}, {0, 10}} {
			isNotGot(t, joined(bytes.Repeat(ahead, 20), behind), api.ErrDeep)
		}
	}
	// The first Kid of each map is the deeper one, so that the second ones all stand behind it.
	isGot(t, joined(bytes.Repeat([]byte{0, 33}, 19), bytes.Repeat([]byte{0, 9}, 20)),
		wrapped(19, anInt, func(o api.Option) api.Option { return dict(o, anInt) }))
	isNotGot(t, joined(bytes.Repeat([]byte{0, 33}, 20), bytes.Repeat([]byte{0, 9}, 21)), api.ErrDeep)
}

// P4.2: of two wrong parts the one that is read first is told.
func TestGetFirstError(t *testing.T) {
	isNotGot(t, []byte{0, 33, 0, 10, 0}, api.ErrForm)
	isNotGot(t, []byte{0, 33, 0, 9, 0}, api.ErrShort)
	isNotGot(t, joined([]byte{0, 33, 0, 10}, nestedBytes(20, nil)), api.ErrForm)
	isNotGot(t, joined([]byte{0, 33}, nestedBytes(20, []byte{0, 10})), api.ErrDeep)
	isNotGot(t, joined([]byte{0, 33, 0, 9}, nestedBytes(18, []byte{0, 10})), api.ErrForm)
	isNotGot(t, joined([]byte{0, 33, 0, 9}, nestedBytes(19, []byte{0, 10})), api.ErrDeep)
	isNotGot(t, []byte{0, 49, 0, 2, 0, 0, 0, 9, 0, 10}, api.ErrShort)
	isNotGot(t, []byte{0, 49, 0, 3, 0, 10}, api.ErrForm)
	isNotGot(t, []byte{0, 48, 0, 9, 0, 10}, api.ErrShort)
	isNotGot(t, []byte{0, 48, 0, 0, 0, 0, 0, 2, 0, 0, 0, 10, 0, 9}, api.ErrForm)
	isNotGot(t, []byte{0, 48, 0, 0, 0, 0, 0, 2, 0, 0, 0, 9, 0, 9, 0, 10}, api.ErrShort)
}

// P4.2: what is got is new memory: it doesn't follow the bytes, nor one of its lists another one.
func TestGotIsNewMemory(t *testing.T) {
	pair := udt("s", "n", fields("f", "g", "h"), anInt, aBlob, anInt)
	b, _ := Put(tuple(pair, pair, custom("c")))
	o, _, _ := Get(b)
	again, _, _ := Get(b)
	for i := range b {
		b[i] = 255
	}
	if !same(o, tuple(pair, pair, custom("c"))) {
		t.Error("follows the bytes:", o)
	}
	first := &o.Kids[0]
	first.Names[0], first.Kids[0] = "changed", noId
	first.Names = append(first.Names, "more")
	first.Kids = append(first.Kids, noId)
	if !same(o.Kids[1], pair) || !same(again, tuple(pair, pair, custom("c"))) {
		t.Error("shared:", o, again)
	}
}

// P4.1, P4.3: what is handed in stays as it was, and what is put is new memory.
func TestPutChangesNothing(t *testing.T) {
	o := udt("s", "n", fields("g", "f"), dict(anInt, aBlob), tuple(list(anInt), custom("c")))
	was := udt("s", "n", fields("g", "f"), dict(anInt, aBlob), tuple(list(anInt), custom("c")))
	b, _ := Put(o)
	Text(o)
	for i := range b {
		b[i] = 255
	}
	if !same(o, was) {
		t.Error("changed:", o)
	}
	c, _ := Put(o)
	d, _ := Put(was)
	if !bytes.Equal(c, d) || bytes.Equal(b, c) {
		t.Error("kept:", b, c, d)
	}
}

// P4.3: the name of each plain type.
func TestTextPlain(t *testing.T) {
	for id, name := range plain {
		isText(t, api.Option{Id: id}, name)
		isText(t, set(api.Option{Id: id}), "set<"+name+">")
	}
}

// P4.3: the texts of types that aren't plain; a Udt's fields aren't told.
func TestText(t *testing.T) {
	isText(t, custom("ab"), "'ab'")
	isText(t, custom(""), "''")
	isText(t, custom("it's\x00\xff"), "'it's\x00\xff'")
	isText(t, list(anInt), "list<int>")
	isText(t, set(aBlob), "set<blob>")
	isText(t, dict(anInt, aBlob), "map<int, blob>")
	isText(t, dict(aBlob, anInt), "map<blob, int>")
	isText(t, udt("s", "n", nil), "s.n")
	isText(t, udt("", "", nil), ".")
	isText(t, udt("s", "n", fields("f", "g"), anInt, list(aBlob)), "s.n")
	isText(t, tuple(), "tuple<>")
	isText(t, tuple(anInt), "tuple<int>")
	isText(t, tuple(anInt, aBlob, anInt), "tuple<int, blob, int>")
	isText(t, dict(list(custom("c")), tuple(set(anInt), udt("s", "n", fields("f"), anInt), dict(anInt, tuple()))),
		"map<list<'c'>, tuple<set<int>, s.n, map<int, tuple<>>>>")
}

// P4.3: a text or a number of Kids that is too long to be put may still be told.
func TestTextOfLong(t *testing.T) {
	isText(t, longName, "'"+tooLong+"'")
	isText(t, udt(tooLong, tooLong, nil), tooLong+"."+tooLong)
	isText(t, udt("s", "n", fields(tooLong), anInt), "s.n")
	isText(t, tuple(many(anInt, 65536)...), "tuple<"+strings.Repeat("int, ", 65535)+"int>")
	isText(t, tuple(many(anInt, 65535)...), "tuple<"+strings.Repeat("int, ", 65534)+"int>")
	isText(t, udt("s", "n", many("f", 65536), many(anInt, 65536)...), "s.n")
}

// P4.3: every Id that is none, alone and within others, a Udt's field too, though it isn't told.
func TestTextNoId(t *testing.T) {
	for id := range math.MaxUint16 + 1 {
		if isNone(id) {
			isNoText(t, api.Option{Id: uint16(id), Space: "s", Name: "n"}, api.ErrArg)
			isNoText(t, list(api.Option{Id: uint16(id)}), api.ErrArg)
		}
	}
	for _, wrap := range wraps() {
		isNoText(t, wrap(noId), api.ErrArg)
		isNoText(t, wrapped(19, noId, wrap), api.ErrArg)
	}
	isNoText(t, dict(longName, noId), api.ErrArg)
	isNoText(t, udt(tooLong, "n", fields("f"), noId), api.ErrArg)
	isNoText(t, udt(tooLong, "n", fields("f")), api.ErrArg)
	isNoText(t, tuple(many(noId, 65536)...), api.ErrArg)
}

// draws are numbers that look like chance, and are the same each time.
type draws uint32

// below is the next one, below n.
func (d *draws) below(n int) int {
	*d = *d*1664525 + 1013904223
	return int(uint32(*d)>>16) % n
}

// text is some text.
func (d *draws) text() string {
	texts := []string{"", "a", "b.c", "\x00\xff", "na\u00efve", "0123456789"}
	return texts[d.below(len(texts))]
}

// option is some type that may be, at most so deep.
func (d *draws) option(most int) api.Option {
	id := made[d.below(len(made))]
	if most == 1 || d.below(3) == 0 {
		id = []uint16{0, 1, 2, 3, 4, 5, 6, 7, 8, 9, 11, 12, 13, 14, 15, 16, 17, 18, 19, 20}[d.below(20)]
	}
	o := api.Option{Id: id}
	kids := 0
	switch id {
	case 0:
		o.Name = d.text()
	case 32, 34:
		kids = 1
	case 33:
		kids = 2
	case 48:
		o.Space, o.Name = d.text(), d.text()
		fallthrough
	case 49:
		kids = d.below(4)
	}
	for range kids {
		o.Kids = append(o.Kids, d.option(most-1))
		if id == 48 {
			o.Names = append(o.Names, d.text())
		}
	}
	return o
}

// P4.4: what is put is got, with what is behind, and got again it is the same.
func TestPutIsGot(t *testing.T) {
	d := draws(1)
	types := []api.Option{
		custom(fits), udt(fits, fits, fields(fits, ""), custom(fits), anInt),
		tuple(many(custom("ab"), 65535)...), udt("s", "n", many("f", 65535), many(list(aBlob), 65535)...),
		nested(19, tuple()), wrapped(19, anInt, field),
	}
	for range 3000 {
		types = append(types, d.option(1+d.below(20)))
	}
	for _, o := range types {
		b, e := Put(o)
		if e != api.OK {
			t.Fatal(o, e)
		}
		isGot(t, b, o)
		for _, tail := range [][]byte{b, joined(b, b, []byte{1})} {
			got, rest, e := Get(joined(b, tail))
			if !same(got, o) || !bytes.Equal(rest, tail) || e != api.OK {
				t.Error("got with itself behind:", got.Id, len(rest), e)
			}
			again, rest, e := Get(rest)
			if !same(again, o) || !bytes.Equal(rest, tail[len(b):]) || e != api.OK {
				t.Error("got again:", again.Id, len(rest), e)
			}
		}
		if len(b) < 200 {
			isShort(t, b)
		}
	}
}

// P4.2, P4.4: whatever bytes there are, what is got of them is put as it was, and may be told; else there is an error of those that may be.
func TestGotIsPut(t *testing.T) {
	parts := []byte{0, 0, 0, 0, 1, 2, 9, 32, 33, 34, 48, 49}
	d := draws(7)
	got := 0
	for range 50000 {
		b := make([]byte, 2+d.below(60))
		for i := range b {
			if i%2 == 1 {
				b[i] = parts[d.below(len(parts))]
			}
		}
		o, rest, e := Get(b)
		switch e {
		case api.OK:
			got++
			isPut(t, o, b[:len(b)-len(rest)]...)
			if _, e := Text(o); e != api.OK {
				t.Error(b, e)
			}
		case api.ErrShort, api.ErrForm, api.ErrDeep:
			isNotGot(t, b, e)
		default:
			t.Error(b, e)
		}
	}
	if got < 1000 {
		t.Error("only", got, "types were got")
	}
}
