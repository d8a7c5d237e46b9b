package request

import (
	"signalbox/api"
	"signalbox/octets"
	"signalbox/prims"
)

// writer gathers a body, part by part. Its first error stays, so that whoever writes need not ask behind each part.
type writer struct {
	body  []byte
	first api.Errno
}

// fail keeps an error, unless there is one already.
func (w *writer) fail(e api.Errno) {
	if w.first == api.OK {
		w.first = e
	}
}

// part writes what another layer put, or keeps that layer's error.
func (w *writer) part(b []byte, e api.Errno) {
	w.fail(e)
	if w.first == api.OK {
		w.body = append(w.body, b...)
	}
}

// number writes a number in so many bytes.
func (w *writer) number(x uint64, n int) {
	w.part(octets.Put(x, n), api.OK)
}

// count writes how many there are, as a short.
func (w *writer) count(n int) {
	if n > mostItems {
		w.fail(api.ErrLong)
	}
	w.number(uint64(n), shortBytes)
}

// long writes a long text.
func (w *writer) long(s string) {
	w.part(prims.Long(s), api.OK)
}

// id writes short bytes.
func (w *writer) id(b []byte) {
	w.count(len(b))
	w.part(b, api.OK)
}

// kind writes a batch's kind.
func (w *writer) kind(k byte) {
	if k > lastKind {
		w.fail(api.ErrArg)
	}
	w.number(uint64(k), kindBytes)
}

// statements writes those of a batch.
func (w *writer) statements(all []Statement) {
	w.count(len(all))
	for _, s := range all {
		if w.first != api.OK {
			return
		}
		w.statement(s)
	}
}

// statement writes one of a batch.
func (w *writer) statement(s Statement) {
	if s.Prepared {
		w.number(aheadPrepared, aheadBytes)
		w.id(s.Id)
	} else {
		w.number(aheadText, aheadBytes)
		w.long(s.Text)
	}
	w.values(s.Values, nil)
}

// values writes how many there are, and each one, behind its name if there are names.
func (w *writer) values(l []api.Value, names []string) {
	w.count(len(l))
	for i, v := range l {
		// Names that aren't as many as the values are an error by now: none is missing behind this.
		if w.first != api.OK {
			return
		}
		if len(names) > 0 {
			w.part(prims.Text(names[i]))
		}
		w.part(prims.Value(v))
	}
}

// run writes a run that may have these flags.
func (w *writer) run(p Params, may byte) {
	w.part(prims.Consistency(p.Consistency))
	flags := flagsOf(p)
	if flags&^may != 0 || flags&hasNames != 0 && len(p.Names) != len(p.Values) {
		w.fail(api.ErrArg)
	}
	w.number(uint64(flags), flagsBytes)
	if flags&hasValues != 0 {
		w.values(p.Values, p.Names)
	}
	if p.Paged {
		w.number(uint64(p.Page), pageBytes)
	}
	if p.Resumed {
		w.part(prims.Value(p.State))
	}
	if p.Serially {
		w.part(prims.Consistency(p.Serial))
	}
	if p.Timed {
		w.number(uint64(p.Time), timeBytes)
	}
}

// flagsOf tells by flags what is there of a run.
func flagsOf(p Params) byte {
	return flagIf(len(p.Values) > 0, hasValues) |
		flagIf(p.Skip, hasSkip) |
		flagIf(p.Paged, hasPage) |
		flagIf(p.Resumed, hasState) |
		flagIf(p.Serially, hasSerial) |
		flagIf(p.Timed, hasTime) |
		flagIf(len(p.Names) > 0, hasNames)
}

// flagIf is the flag if what it stands for is there, else none.
func flagIf(there bool, flag byte) byte {
	if there {
		return flag
	}
	return 0
}
