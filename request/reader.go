package request

import (
	"signalbox/api"
	"signalbox/octets"
	"signalbox/prims"
)

// reader takes a body apart, part by part. Its first error stays, and behind it all that is read is nothing, so that whoever reads need not ask behind each part.
type reader struct {
	rest  []byte
	first api.Errno
}

// fail keeps an error, unless there is one already.
func (in *reader) fail(e api.Errno) {
	if in.first == api.OK {
		in.first = e
	}
}

// read is the next part, as get gets it off the beginning.
func read[T any](in *reader, get func(b []byte) (T, []byte, api.Errno)) T {
	var part T
	if in.first == api.OK {
		part, in.rest, in.first = get(in.rest)
	}
	return part
}

// end fails if bytes are left.
func (in *reader) end() {
	if len(in.rest) > 0 {
		in.fail(api.ErrBody)
	}
}

// number is the next one, of so many bytes.
func (in *reader) number(n int) uint64 {
	return read(in, func(b []byte) (uint64, []byte, api.Errno) {
		return octets.Get(b, n)
	})
}

// signed is the next number, of so many bytes, with a sign.
func (in *reader) signed(n int) int64 {
	return octets.Signed(in.number(n), n)
}

// id is the next short bytes.
func (in *reader) id() []byte {
	n := in.number(shortBytes)
	return read(in, func(b []byte) ([]byte, []byte, api.Errno) {
		return octets.Take(b, n)
	})
}

// kind is a batch's kind.
func (in *reader) kind() byte {
	k := in.number(kindBytes)
	if k > lastKind {
		in.fail(api.ErrForm)
	}
	return byte(k)
}

// statements are those of a batch.
func (in *reader) statements() []Statement {
	var all []Statement
	for range in.number(shortBytes) {
		s := in.statement()
		// A short may tell of far more than there are.
		if in.first != api.OK {
			return nil
		}
		all = append(all, s)
	}
	return all
}

// statement is the next one of a batch.
func (in *reader) statement() Statement {
	var s Statement
	switch in.number(aheadBytes) {
	case aheadText:
		s.Text = read(in, prims.GetLong)
	case aheadPrepared:
		s.Prepared = true
		s.Id = in.id()
	default:
		in.fail(api.ErrForm)
	}
	s.Values, _ = in.values(false)
	return s
}

// values are those whose number stands ahead; if they are named, each one is behind its name.
func (in *reader) values(named bool) ([]api.Value, []string) {
	var l []api.Value
	var names []string
	for range in.number(shortBytes) {
		if named {
			names = append(names, read(in, prims.GetText))
		}
		l = append(l, read(in, prims.GetValue))
		if in.first != api.OK {
			return nil, nil
		}
	}
	return l, names
}

// run is one that may have these flags.
func (in *reader) run(may byte) Params {
	var p Params
	p.Consistency = read(in, prims.GetConsistency)
	flags := in.flags(may)
	if flags&hasValues != 0 {
		p.Values, p.Names = in.values(flags&hasNames != 0)
		if len(p.Values) == 0 {
			in.fail(api.ErrForm)
		}
	}
	p.Skip = flags&hasSkip != 0
	p.Paged = flags&hasPage != 0
	if p.Paged {
		p.Page = int32(in.signed(pageBytes))
	}
	p.Resumed = flags&hasState != 0
	if p.Resumed {
		p.State = read(in, prims.GetValue)
	}
	p.Serially = flags&hasSerial != 0
	if p.Serially {
		p.Serial = read(in, prims.GetConsistency)
	}
	p.Timed = flags&hasTime != 0
	if p.Timed {
		p.Time = in.signed(timeBytes)
	}
	return p
}

// flags are those of a run that may have these.
func (in *reader) flags(may byte) byte {
	flags := byte(in.number(flagsBytes))
	if flags&^may != 0 || flags&hasNames != 0 && flags&hasValues == 0 {
		in.fail(api.ErrFlags)
	}
	return flags
}
