package layout

import (
	"railplan/api"
	"railplan/words"
)

// Check returns the first error of a layout in the order of promise 4.1, or OK; a layout with OK is valid.
func Check(l api.Layout) api.Errno {
	if errno := checkSizes(l); errno != api.OK {
		return errno
	}
	if errno := checkNames(l.Stations); errno != api.OK {
		return errno
	}
	if errno := checkNames(l.Points); errno != api.OK {
		return errno
	}
	if errno := checkSections(l); errno != api.OK {
		return errno
	}
	return checkLinks(l)
}

func checkSizes(l api.Layout) api.Errno {
	switch {
	case len(l.Stations) > api.MaxStations, len(l.Points) > api.MaxPoints, len(l.Sections) > api.MaxSections, len(l.Links) > api.MaxLinks:
		return api.ErrFull
	case len(l.Sections) == 0:
		return api.ErrArg
	}
	return api.OK
}

func checkNames(names []string) api.Errno {
	earlier := make(map[string]bool, len(names))
	for _, name := range names {
		if errno := addName(earlier, name); errno != api.OK {
			return errno
		}
	}
	return api.OK
}

// addName adds the name of an element to those of the earlier elements of its list.
func addName(earlier map[string]bool, name string) api.Errno {
	switch {
	case !words.Name(name):
		return api.ErrName
	case earlier[name]:
		return api.ErrDuplicate
	}
	earlier[name] = true
	return api.OK
}

func checkSections(l api.Layout) api.Errno {
	earlier := make(map[string]bool, len(l.Sections))
	for _, section := range l.Sections {
		if errno := addName(earlier, section.Name); errno != api.OK {
			return errno
		}
		if !isSectionInRange(l, section) {
			return api.ErrRange
		}
	}
	return api.OK
}

func isSectionInRange(l api.Layout, section api.Section) bool {
	return isBetween(section.Length, 1, api.MaxLength) &&
		isBetween(section.Limit, api.MinSpeed, api.MaxSpeed) &&
		isBetween(section.Grade, -api.MaxGrade, api.MaxGrade) &&
		(section.Station == none || isNumberOf(section.Station, len(l.Stations)))
}

func isBetween(n, least, greatest int) bool {
	return least <= n && n <= greatest
}

// isNumberOf reports whether n is the number of an element of a list of that length.
func isNumberOf(n, length int) bool {
	return 0 <= n && n < length
}

func checkLinks(l api.Layout) api.Errno {
	// A table of the ends, because a comparison of every link with every earlier one would be slow for those who ask for many hops.
	var table [api.MaxSections][2]linksOfEnd
	for _, link := range l.Links {
		if !isLinkInRange(l, link) {
			return api.ErrRange
		}
		a, b := endsOf(link)
		atA, atB := &table[a.section][a.side], &table[b.section][b.side]
		switch {
		case a == b:
			return api.ErrArg
		case atA.leadTo(b):
			return api.ErrDuplicate
		case !atA.admit(link), !atB.admit(link):
			return api.ErrLink
		}
		atA.add(link, b)
		atB.add(link, a)
	}
	return api.OK
}

func isLinkInRange(l api.Layout, link api.Link) bool {
	return isNumberOf(link.A, len(l.Sections)) && isNumberOf(link.B, len(l.Sections)) &&
		isEnd(link.AEnd) && isEnd(link.BEnd) &&
		isSwitchInRange(l, link)
}

func isEnd(side int) bool {
	return side == api.EndA || side == api.EndB
}

func isSwitchInRange(l api.Layout, link api.Link) bool {
	if link.Point == none {
		return link.Pos == 0
	}
	return isNumberOf(link.Point, len(l.Points)) && (link.Pos == 0 || link.Pos == 1)
}

// linksOfEnd are the links that have an end; there are never more than two, one for each position of their point.
type linksOfEnd struct {
	count      int
	others     [2]end
	point, pos int // of the first link
}

// leadTo reports whether one of the links joins the end to another one.
func (e *linksOfEnd) leadTo(other end) bool {
	for i := range e.count {
		if e.others[i] == other {
			return true
		}
	}
	return false
}

// admit reports whether the end may have another link.
func (e *linksOfEnd) admit(link api.Link) bool {
	switch e.count {
	case 0:
		return true
	case 1:
		return e.point != none && e.point == link.Point && e.pos != link.Pos
	}
	return false
}

// add adds a link that the end admits, and that joins it to another one.
func (e *linksOfEnd) add(link api.Link, other end) {
	if e.count == 0 {
		e.point, e.pos = link.Point, link.Pos
	}
	e.others[e.count] = other
	e.count++
}
