package reply

import (
	"slices"

	"signalbox/api"
	"signalbox/maps"
	"signalbox/octets"
	"signalbox/prims"
)

// body is gone through part by part, to read it or to write it: so what is written is read in the same order. Its first error stays, and behind it no part is read or written, so that whoever goes through need not ask behind each one.
type body struct {
	writes bool
	bytes  []byte // what is left to read, or what is written so far
	first  api.Errno
}

// fail keeps an error, unless there is one already.
func (w *body) fail(e api.Errno) {
	if w.first == api.OK {
		w.first = e
	}
}

// part is the next one: x is read as get gets it off the beginning, or written as put puts it.
func part[T any](w *body, x *T, get func([]byte) (T, []byte, api.Errno), put func(T) ([]byte, api.Errno)) {
	switch {
	case w.first != api.OK:
	case w.writes:
		more, e := put(*x)
		w.bytes, w.first = append(w.bytes, more...), e
	default:
		*x, w.bytes, w.first = get(w.bytes)
	}
}

// code is a number of four bytes without a sign.
func (w *body) code(x *uint32) { part(w, x, getCode, putCode) }

// count is an int.
func (w *body) count(x *int32) { part(w, x, getInt, putInt) }

// octet is one byte.
func (w *body) octet(x *byte) { part(w, x, getByte, putByte) }

// level is a consistency.
func (w *body) level(x *uint16) { part(w, x, prims.GetConsistency, prims.Consistency) }

// text is a text.
func (w *body) text(x *string) { part(w, x, prims.GetText, prims.Text) }

// texts is a list of texts.
func (w *body) texts(x *[]string) { part(w, x, maps.GetTexts, maps.Texts) }

// support is a map of lists of texts.
func (w *body) support(x *[]api.Multi) { part(w, x, maps.GetMultis, maps.Multis) }

// value is a value.
func (w *body) value(x *api.Value) { part(w, x, prims.GetValue, prims.Value) }

// addr is an address.
func (w *body) addr(x *api.Inet) { part(w, x, prims.GetInet, prims.Inet) }

// id is short bytes.
func (w *body) id(x *[]byte) { part(w, x, getId, putId) }

// rest is all that is left.
func (w *body) rest(x *[]byte) { part(w, x, getRest, putRest) }

// word is a text that has to be one of those named.
func (w *body) word(x *string, named ...string) {
	get := func(b []byte) (string, []byte, api.Errno) {
		s, behind, e := prims.GetText(b)
		if e == api.OK && !slices.Contains(named, s) {
			e = api.ErrForm
		}
		return s, behind, e
	}
	// It is asked ahead of putting: a word that isn't named is ErrForm, even if it is too long for a text.
	put := func(s string) ([]byte, api.Errno) {
		if !slices.Contains(named, s) {
			return nil, api.ErrForm
		}
		return prims.Text(s)
	}
	part(w, x, get, put)
}

// getCode is the number of four bytes at the beginning, and what is behind.
func getCode(b []byte) (uint32, []byte, api.Errno) {
	x, behind, e := octets.Get(b, codeBytes)
	return uint32(x), behind, e
}

// putCode is a number in four bytes.
func putCode(x uint32) ([]byte, api.Errno) {
	return octets.Put(uint64(x), codeBytes), api.OK
}

// getInt is the int at the beginning, and what is behind.
func getInt(b []byte) (int32, []byte, api.Errno) {
	x, behind, e := octets.Get(b, intBytes)
	return int32(octets.Signed(x, intBytes)), behind, e
}

// putInt is an int.
func putInt(x int32) ([]byte, api.Errno) {
	return octets.Put(uint64(x), intBytes), api.OK
}

// getByte is the first byte, and what is behind.
func getByte(b []byte) (byte, []byte, api.Errno) {
	x, behind, e := octets.Get(b, 1)
	return byte(x), behind, e
}

// putByte is one byte.
func putByte(x byte) ([]byte, api.Errno) {
	return octets.Put(uint64(x), 1), api.OK
}

// getId is the short bytes at the beginning, and what is behind.
func getId(b []byte) ([]byte, []byte, api.Errno) {
	n, behind, e := octets.Get(b, shortBytes)
	if e != api.OK {
		return nil, nil, e
	}
	return octets.Take(behind, n)
}

// putId is short bytes.
func putId(x []byte) ([]byte, api.Errno) {
	if len(x) > mostId {
		return nil, api.ErrLong
	}
	return append(octets.Put(uint64(len(x)), shortBytes), x...), api.OK
}

// getRest is all of it, in new memory, and nothing behind.
func getRest(b []byte) ([]byte, []byte, api.Errno) {
	return octets.Take(b, uint64(len(b)))
}

// putRest is just these bytes: how many there are is not told.
func putRest(x []byte) ([]byte, api.Errno) {
	return x, api.OK
}
