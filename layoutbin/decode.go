package layoutbin

import (
	"strings"

	"railplan/api"
	"railplan/layout"
)

// Decode returns the valid layout whose encoding is s. Together with an error it returns the position of the item that has it, or 0 if it is an error of the layout.
func Decode(s string) (api.Layout, int, api.Errno) {
	c := cursor{encoding: s}
	if first := c.item(len(signature)); !c.stopped && first != signature {
		return api.Layout{}, 0, api.ErrForm
	}
	l := c.layout()
	last := c.position
	sum := c.number(sumSize)
	switch {
	case c.stopped:
		return api.Layout{}, c.position, api.ErrShort
	case sum != int(Sum(s[:last])):
		return api.Layout{}, last, api.ErrSum
	case c.position != len(s):
		return api.Layout{}, c.position, api.ErrForm
	}
	if errno := layout.Check(l); errno != api.OK {
		return api.Layout{}, 0, errno
	}
	return l, 0, api.OK
}

// cursor reads the items of an encoding one after another. It stops for good before the first item that is not complete, and what is read from then on is empty or zero.
type cursor struct {
	encoding string
	position int // of the next item
	stopped  bool
}

// item returns the bytes of the next item, whose size is not 0.
func (c *cursor) item(size int) string {
	if c.stopped || size > len(c.encoding)-c.position {
		c.stopped = true
		return ""
	}
	start := c.position
	c.position += size
	return c.encoding[start:c.position]
}

// number reads a number whose least significant byte comes first.
func (c *cursor) number(size int) int {
	value := 0
	for i, b := range []byte(c.item(size)) {
		value |= int(b) << (8 * i)
	}
	return value
}

// name reads a name with the number of its bytes, which form one item.
func (c *cursor) name() string {
	size := 1
	if c.position < len(c.encoding) {
		size += int(c.encoding[c.position])
	}
	item := c.item(size)
	if c.stopped {
		return ""
	}
	// A copy, because a part of the item would share the memory of the whole encoding.
	return strings.Clone(item[1:])
}

// layout reads the items between the signature and the sum.
func (c *cursor) layout() api.Layout {
	stations, points := c.number(smallSize), c.number(smallSize)
	sections, links := c.number(smallSize), c.number(smallSize)
	return api.Layout{
		Stations: readEach(stations, c.name),
		Points:   readEach(points, c.name),
		Sections: readEach(sections, c.section),
		Links:    readEach(links, c.link),
	}
}

func readEach[T any](count int, read func() T) []T {
	var list []T
	for range count {
		list = append(list, read())
	}
	return list
}

func (c *cursor) section() api.Section {
	return api.Section{
		Name:    c.name(),
		Length:  c.number(lengthSize),
		Limit:   c.number(limitSize),
		Grade:   c.number(smallSize) - api.MaxGrade,
		Station: c.number(smallSize) - 1,
	}
}

func (c *cursor) link() api.Link {
	a, b := c.number(smallSize), c.number(smallSize)
	return api.Link{
		A: a / 2, AEnd: a % 2,
		B: b / 2, BEnd: b % 2,
		Point: c.number(smallSize) - 1,
		Pos:   c.number(smallSize),
	}
}
