package rows

import (
	"signalbox/api"
	"signalbox/octets"
	"signalbox/option"
	"signalbox/prims"
)

// writer gathers bytes, part by part. Its first error stays, so that whoever writes need not ask behind each part.
type writer struct {
	bytes []byte
	first api.Errno
}

// part writes what another layer put, or keeps that layer's error.
func (w *writer) part(b []byte, e api.Errno) {
	if w.first == api.OK {
		w.bytes, w.first = append(w.bytes, b...), e
	}
}

// number writes an int.
func (w *writer) number(x int) {
	w.part(octets.Put(uint64(x), intBytes), api.OK)
}

// table writes what stands ahead of a table's rows.
func (w *writer) table(t Table, flags int) {
	w.number(flags)
	w.number(t.Count)
	if t.More {
		w.part(prims.Value(t.State))
	}
	w.columns(t.Columns, flags&isGlobal != 0)
}

// columns writes columns; global: what they are of stands once, ahead of them.
func (w *writer) columns(l []Column, global bool) {
	for i, c := range l {
		if i == 0 || !global {
			w.part(prims.Text(c.Space))
			w.part(prims.Text(c.Table))
		}
		w.part(prims.Text(c.Name))
		w.part(option.Put(c.Type))
	}
}

// rows writes how many there are, and each one's values.
func (w *writer) rows(all [][]api.Value) {
	w.number(len(all))
writing:
	for _, row := range all {
		for _, v := range row {
			w.part(prims.Value(v))
			if w.first != api.OK {
				break writing
			}
		}
	}
}
