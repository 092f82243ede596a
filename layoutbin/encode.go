package layoutbin

import (
	"strings"

	"railplan/api"
	"railplan/layout"
)

// Encode returns the encoding of a valid layout, and ErrArg for any other layout.
func Encode(l api.Layout) (string, api.Errno) {
	if layout.Check(l) != api.OK {
		return "", api.ErrArg
	}
	var w writer
	w.encoding.WriteString(signature)
	for _, count := range []int{len(l.Stations), len(l.Points), len(l.Sections), len(l.Links)} {
		w.number(count, smallSize)
	}
	writeEach(l.Stations, w.name)
	writeEach(l.Points, w.name)
	writeEach(l.Sections, w.section)
	writeEach(l.Links, w.link)
	w.number(int(Sum(w.encoding.String())), sumSize)
	return w.encoding.String(), api.OK
}

func writeEach[T any](list []T, write func(T)) {
	for _, element := range list {
		write(element)
	}
}

// writer writes the items of an encoding one after another.
type writer struct{ encoding strings.Builder }

// number writes a number that is not negative, its least significant byte first.
func (w *writer) number(value, size int) {
	for i := range size {
		w.encoding.WriteByte(byte(value >> (8 * i)))
	}
}

func (w *writer) name(name string) {
	w.number(len(name), smallSize)
	w.encoding.WriteString(name)
}

func (w *writer) section(section api.Section) {
	w.name(section.Name)
	w.number(section.Length, lengthSize)
	w.number(section.Limit, limitSize)
	w.number(section.Grade+api.MaxGrade, smallSize)
	w.number(section.Station+1, smallSize)
}

func (w *writer) link(link api.Link) {
	w.number(link.A*2+link.AEnd, smallSize)
	w.number(link.B*2+link.BEnd, smallSize)
	w.number(link.Point+1, smallSize)
	w.number(link.Pos, smallSize)
}
