package layout

import (
	"math"
	"slices"
	"strings"
	"testing"

	"railplan/api"
	"railplan/words"
)

func expectCheck(t *testing.T, l api.Layout, want api.Errno) {
	t.Helper()
	if got := Check(l); got != want {
		t.Errorf("Check(%s) = %d; want %d", describe(l), got, want)
	}
}

// expectFault checks a layout that is changed by a fault.
func expectFault(t *testing.T, l api.Layout, want api.Errno, fault func(l *api.Layout)) {
	t.Helper()
	l = cloneLayout(l)
	fault(&l)
	expectCheck(t, l, want)
}

func TestCheckOrdinaryLayouts(t *testing.T) {
	expectCheck(t, exampleLayout(), api.OK)
	expectCheck(t, api.Layout{Sections: sections(1)}, api.OK)
	expectCheck(t, api.Layout{Stations: []string{}, Points: []string{}, Sections: sections(1), Links: []api.Link{}}, api.OK)
	expectCheck(t, api.Layout{Sections: sections(1), Links: []api.Link{plainLink(0, api.EndB, 0, api.EndA)}}, api.OK)
	expectCheck(t, api.Layout{Sections: sections(2), Links: []api.Link{plainLink(1, api.EndB, 0, api.EndB), plainLink(1, api.EndA, 0, api.EndA)}}, api.OK)
	expectCheck(t, lineLayout(30), api.OK)
}

func TestCheckSizes(t *testing.T) {
	full := fullLayout()
	expectCheck(t, full, api.OK)
	for _, count := range []int{1, 2, 1000} {
		expectFault(t, full, api.ErrFull, func(l *api.Layout) { l.Stations = append(l.Stations, names("X", count)...) })
		expectFault(t, full, api.ErrFull, func(l *api.Layout) { l.Points = append(l.Points, names("X", count)...) })
		expectFault(t, full, api.ErrFull, func(l *api.Layout) {
			for _, name := range names("X", count) {
				l.Sections = append(l.Sections, section(name))
			}
		})
		expectFault(t, full, api.ErrFull, func(l *api.Layout) {
			l.Links = append(l.Links, slices.Repeat([]api.Link{plainLink(0, api.EndA, 1, api.EndA)}, count)...)
		})
	}
}

// Each list alone at its limit and one longer, in a layout that is small otherwise.
func TestCheckEachListAtItsLimit(t *testing.T) {
	for beyond, want := range map[int]api.Errno{-1: api.OK, 0: api.OK, 1: api.ErrFull} {
		expectCheck(t, api.Layout{Stations: names("S", api.MaxStations+beyond), Sections: sections(1)}, want)
		expectCheck(t, api.Layout{Points: names("P", api.MaxPoints+beyond), Sections: sections(1)}, want)
		expectCheck(t, api.Layout{Sections: sections(api.MaxSections + beyond)}, want)
	}
	full := fullLayout()
	full.Links = full.Links[:api.MaxLinks-1]
	expectCheck(t, full, api.OK)
	// More links than MaxLinks always have another error too, because the ends of MaxSections sections are taken by then.
	links := slices.Repeat([]api.Link{plainLink(0, api.EndA, 0, api.EndA)}, api.MaxLinks+1)
	expectCheck(t, api.Layout{Sections: sections(1), Links: links}, api.ErrFull)
	expectCheck(t, api.Layout{Sections: sections(1), Links: links[1:]}, api.ErrArg)
}

func TestCheckNoSection(t *testing.T) {
	expectCheck(t, api.Layout{}, api.ErrArg)
	expectCheck(t, api.Layout{Sections: []api.Section{}}, api.ErrArg)
	expectCheck(t, api.Layout{Stations: names("S", api.MaxStations), Points: names("P", api.MaxPoints)}, api.ErrArg)
	expectCheck(t, api.Layout{Stations: []string{"1", "1"}, Points: []string{""}, Links: []api.Link{{}}}, api.ErrArg)
	// Too many elements count first, whichever they are.
	expectCheck(t, api.Layout{Stations: names("S", api.MaxStations+1)}, api.ErrFull)
	expectCheck(t, api.Layout{Points: names("P", api.MaxPoints+1)}, api.ErrFull)
	expectCheck(t, api.Layout{Links: make([]api.Link, api.MaxLinks+1)}, api.ErrFull)
	expectCheck(t, api.Layout{Links: make([]api.Link, api.MaxLinks)}, api.ErrArg)
}

// setName sets the name of an element of one of the three lists.
func setName(l *api.Layout, list, number int, name string) {
	switch list {
	case 0:
		l.Stations[number] = name
	case 1:
		l.Points[number] = name
	case 2:
		l.Sections[number].Name = name
	}
}

func nameOf(l api.Layout, list, number int) string {
	switch list {
	case 0:
		return l.Stations[number]
	case 1:
		return l.Points[number]
	}
	return l.Sections[number].Name
}

func TestCheckNames(t *testing.T) {
	for _, name := range []string{"", "1", "_", "_a", "1a", "a-b", "a b", "a#", "a.", " a", "a\n", "Zürich", "abcdefghijklm", strings.Repeat("a", 1<<20), "a\x00", "\xff"} {
		for list := range 3 {
			for number := range 4 {
				expectFault(t, lineLayout(4), api.ErrName, func(l *api.Layout) { setName(l, list, number, name) })
			}
		}
	}
	for _, name := range []string{"a", "Z", "a_", "a__1", "abcdefghijkl", "A23456789012", "at", "link", "section", "B"} {
		for list := range 3 {
			for number := range 4 {
				expectFault(t, lineLayout(4), api.OK, func(l *api.Layout) { setName(l, list, number, name) })
			}
		}
	}
}

func TestCheckDuplicateNames(t *testing.T) {
	for list := range 3 {
		for first := range 4 {
			for second := range 4 {
				want := api.ErrDuplicate
				if first == second {
					want = api.OK
				}
				expectFault(t, lineLayout(4), want, func(l *api.Layout) { setName(l, list, second, nameOf(*l, list, first)) })
			}
		}
	}
	expectFault(t, lineLayout(4), api.OK, func(l *api.Layout) { setName(l, 0, 0, "s1") })
	// The first and the last elements of full lists.
	expectFault(t, fullLayout(), api.ErrDuplicate, func(l *api.Layout) { l.Stations[api.MaxStations-1] = l.Stations[0] })
	expectFault(t, fullLayout(), api.ErrDuplicate, func(l *api.Layout) { l.Points[api.MaxPoints-1] = l.Points[0] })
	expectFault(t, fullLayout(), api.ErrDuplicate, func(l *api.Layout) { l.Sections[api.MaxSections-1].Name = l.Sections[0].Name })
}

func TestCheckTheSameNameInTwoLists(t *testing.T) {
	for list := range 3 {
		for other := range 3 {
			if list != other {
				expectFault(t, lineLayout(4), api.OK, func(l *api.Layout) { setName(l, list, 3, nameOf(*l, other, 1)) })
			}
		}
	}
	l := api.Layout{Stations: names("x", 4), Points: names("x", 4), Sections: sections(4)}
	for i := range l.Sections {
		l.Sections[i].Name = l.Points[i]
	}
	expectCheck(t, l, api.OK)
}

func TestCheckSectionNumbers(t *testing.T) {
	for _, c := range []struct {
		field           func(s *api.Section) *int
		least, greatest int
	}{
		{func(s *api.Section) *int { return &s.Length }, 1, 400},
		{func(s *api.Section) *int { return &s.Limit }, 1000, 100000},
		{func(s *api.Section) *int { return &s.Grade }, -40, 40},
		{func(s *api.Section) *int { return &s.Station }, -1, 3},
	} {
		for number := range 4 {
			set := func(value int) func(l *api.Layout) {
				return func(l *api.Layout) { *c.field(&l.Sections[number]) = value }
			}
			for _, value := range []int{c.least, c.least + 1, c.greatest - 1, c.greatest} {
				expectFault(t, lineLayout(4), api.OK, set(value))
			}
			for _, value := range []int{c.least - 1, c.least - 2, c.least - 1000000, math.MinInt, c.greatest + 1, c.greatest + 2, c.greatest + 1000000, math.MaxInt} {
				expectFault(t, lineLayout(4), api.ErrRange, set(value))
			}
		}
	}
}

func TestCheckStationOfASection(t *testing.T) {
	for count := range 4 {
		for station := -3; station < 6; station++ {
			want := api.ErrRange
			if -1 <= station && station < count {
				want = api.OK
			}
			s := section("T")
			s.Station = station
			expectCheck(t, api.Layout{Stations: names("S", count), Points: names("P", 5), Sections: []api.Section{section("U"), s, section("V"), section("W"), section("X")}}, want)
		}
	}
}

// linkLayout returns four sections with links, and two points.
func linkLayout(links ...api.Link) api.Layout {
	return api.Layout{Points: names("P", 2), Sections: sections(4), Links: links}
}

func TestCheckLinkNumbers(t *testing.T) {
	beyond := []int{math.MinInt, -1000, -2, 1000, math.MaxInt}
	for _, c := range []struct {
		field      func(l *api.Link) *int
		good, bad  []int
		hasNoPoint bool
	}{
		{field: func(l *api.Link) *int { return &l.A }, good: []int{0, 3}, bad: []int{-1, 4}},
		{field: func(l *api.Link) *int { return &l.B }, good: []int{0, 3}, bad: []int{-1, 4}},
		{field: func(l *api.Link) *int { return &l.AEnd }, good: []int{0, 1}, bad: []int{-1, 2}},
		{field: func(l *api.Link) *int { return &l.BEnd }, good: []int{0, 1}, bad: []int{-1, 2}},
		{field: func(l *api.Link) *int { return &l.Point }, good: []int{0, 1}, bad: []int{-1, 2}}, // position 1 needs a point
		{field: func(l *api.Link) *int { return &l.Pos }, good: []int{0, 1}, bad: []int{-1, 2}},
		{field: func(l *api.Link) *int { return &l.Point }, good: []int{-1, 0, 1}, bad: []int{2}, hasNoPoint: true},
		{field: func(l *api.Link) *int { return &l.Pos }, good: []int{0}, bad: []int{-1, 1, 2}, hasNoPoint: true},
	} {
		link := switchedLink(1, api.EndB, 2, api.EndA, 0, 1)
		if c.hasNoPoint {
			link = plainLink(1, api.EndB, 2, api.EndA)
		}
		for _, value := range c.good {
			*c.field(&link) = value
			expectCheck(t, linkLayout(link), api.OK)
		}
		for _, value := range slices.Concat(c.bad, beyond) {
			*c.field(&link) = value
			expectCheck(t, linkLayout(link), api.ErrRange)
			expectCheck(t, linkLayout(plainLink(0, api.EndA, 3, api.EndB), link), api.ErrRange)
		}
	}
}

func TestCheckPointWithoutPoints(t *testing.T) {
	for point := -2; point < 3; point++ {
		want := api.ErrRange
		if point == -1 {
			want = api.OK
		}
		expectCheck(t, api.Layout{Stations: names("S", 3), Sections: sections(4), Links: []api.Link{switchedLink(0, 1, 1, 0, point, 0)}}, want)
	}
}

func TestCheckLinkFromAnEndToItself(t *testing.T) {
	for number := range 4 {
		for side := range 2 {
			expectCheck(t, linkLayout(plainLink(number, side, number, side)), api.ErrArg)
			expectCheck(t, linkLayout(switchedLink(number, side, number, side, 1, 1)), api.ErrArg)
			expectCheck(t, linkLayout(plainLink(number, side, number, 1-side)), api.OK)
			expectCheck(t, linkLayout(plainLink(number, side, (number+1)%4, side)), api.OK)
		}
	}
}

// swapped returns the link that joins the same ends in the other order.
func swapped(link api.Link) api.Link {
	link.A, link.AEnd, link.B, link.BEnd = link.B, link.BEnd, link.A, link.AEnd
	return link
}

func TestCheckTheSameEndsTwice(t *testing.T) {
	between := plainLink(3, api.EndA, 3, api.EndB)
	for _, first := range []api.Link{plainLink(0, 1, 1, 0), switchedLink(0, 1, 1, 0, 0, 0), plainLink(2, 0, 2, 1), switchedLink(2, 1, 1, 1, 1, 1)} {
		for _, second := range []api.Link{first, swapped(first)} {
			expectCheck(t, linkLayout(first, second), api.ErrDuplicate)
			expectCheck(t, linkLayout(first, between, second), api.ErrDuplicate)
			expectCheck(t, linkLayout(between, first, second), api.ErrDuplicate)
			// Not even the two positions of a point may join the same ends.
			second.Point, second.Pos = max(first.Point, 0), 1-first.Pos
			expectCheck(t, linkLayout(first, second), api.ErrDuplicate)
			second.Point = 1 - max(first.Point, 0)
			expectCheck(t, linkLayout(first, second), api.ErrDuplicate)
			second.Point, second.Pos = -1, 0
			expectCheck(t, linkLayout(first, second), api.ErrDuplicate)
		}
	}
	// The same sections at other ends are no duplicate.
	expectCheck(t, linkLayout(plainLink(0, 1, 1, 0), plainLink(0, 0, 1, 1)), api.OK)
	expectCheck(t, linkLayout(plainLink(0, 1, 1, 0), plainLink(1, 1, 0, 0)), api.OK)
	expectCheck(t, linkLayout(switchedLink(0, 1, 1, 0, 0, 0), switchedLink(0, 1, 1, 1, 0, 1)), api.OK)
}

// turned returns a link and the same one in the other order.
func turned(link api.Link) []api.Link {
	return []api.Link{link, swapped(link)}
}

func TestCheckAnEndWithTwoLinks(t *testing.T) {
	for _, c := range []struct {
		first, second api.Link
		want          api.Errno
	}{
		{switchedLink(0, 1, 1, 0, 0, 0), switchedLink(0, 1, 2, 0, 0, 1), api.OK},
		{switchedLink(0, 1, 1, 0, 1, 1), switchedLink(0, 1, 2, 1, 1, 0), api.OK},
		{switchedLink(0, 1, 1, 0, 0, 0), switchedLink(0, 1, 2, 0, 0, 0), api.ErrLink},
		{switchedLink(0, 1, 1, 0, 0, 1), switchedLink(0, 1, 2, 0, 0, 1), api.ErrLink},
		{switchedLink(0, 1, 1, 0, 0, 0), switchedLink(0, 1, 2, 0, 1, 1), api.ErrLink},
		{switchedLink(0, 1, 1, 0, 0, 0), switchedLink(0, 1, 2, 0, 1, 0), api.ErrLink},
		{switchedLink(0, 1, 1, 0, 0, 1), plainLink(0, 1, 2, 0), api.ErrLink},
		{plainLink(0, 1, 1, 0), switchedLink(0, 1, 2, 0, 0, 1), api.ErrLink},
		{plainLink(0, 1, 1, 0), plainLink(0, 1, 2, 0), api.ErrLink},
		// The section itself is at the other end of one of the links.
		{switchedLink(0, 1, 0, 0, 0, 0), switchedLink(0, 1, 2, 0, 0, 1), api.OK},
		{switchedLink(0, 1, 2, 0, 0, 0), switchedLink(0, 1, 0, 0, 0, 1), api.OK},
		{plainLink(0, 1, 0, 0), plainLink(0, 1, 2, 0), api.ErrLink},
	} {
		for _, first := range turned(c.first) {
			for _, second := range turned(c.second) {
				expectCheck(t, linkLayout(first, second), c.want)
				expectCheck(t, linkLayout(first, plainLink(3, 0, 3, 1), second), c.want)
				expectCheck(t, linkLayout(second, first), c.want)
			}
		}
	}
}

// The second link shares both of its ends with earlier links.
func TestCheckBothEndsOfALink(t *testing.T) {
	for _, c := range []struct {
		last api.Link
		want api.Errno
	}{
		{switchedLink(1, 0, 2, 0, 0, 1), api.OK},
		{switchedLink(1, 0, 2, 0, 0, 0), api.ErrLink},
		{switchedLink(1, 0, 2, 0, 1, 1), api.ErrLink},
		{plainLink(1, 0, 2, 0), api.ErrLink},
		{switchedLink(1, 0, 3, 0, 0, 1), api.ErrLink}, // the end 3 A has the other point
		{switchedLink(1, 0, 3, 0, 1, 0), api.ErrLink}, // the end 1 A has the other point
		{switchedLink(2, 0, 3, 0, 0, 1), api.ErrLink},
	} {
		for _, last := range turned(c.last) {
			expectCheck(t, linkLayout(switchedLink(0, 1, 1, 0, 0, 0), switchedLink(2, 0, 3, 1, 0, 0), switchedLink(3, 0, 2, 1, 1, 1), last), c.want)
		}
	}
}

func TestCheckAnEndWithThreeLinks(t *testing.T) {
	for _, first := range turned(switchedLink(0, 1, 1, 0, 0, 0)) {
		for _, second := range turned(switchedLink(0, 1, 2, 0, 0, 1)) {
			for _, third := range []api.Link{switchedLink(0, 1, 3, 0, 0, 0), switchedLink(0, 1, 3, 0, 0, 1), switchedLink(0, 1, 3, 0, 1, 0), switchedLink(0, 1, 3, 0, 1, 1), plainLink(0, 1, 3, 0)} {
				for _, third := range turned(third) {
					expectCheck(t, linkLayout(first, second, third), api.ErrLink)
					expectCheck(t, linkLayout(second, first, third), api.ErrLink)
				}
			}
			// The third link joins the ends of one of the others.
			expectCheck(t, linkLayout(first, second, first), api.ErrDuplicate)
			expectCheck(t, linkLayout(first, second, swapped(second)), api.ErrDuplicate)
		}
	}
}

// fault is a change of a layout, and the error that it alone is.
type fault struct {
	name  string
	apply func(l *api.Layout)
	errno api.Errno
}

// faultsInOrder returns faults of a line of eight sections in the order in which Check finds them; each pair of them can stand together in one layout.
func faultsInOrder() []fault {
	return []fault{
		{"stations", func(l *api.Layout) { l.Stations = append(l.Stations, names("X", api.MaxStations)...) }, api.ErrFull},
		{"points", func(l *api.Layout) { l.Points = append(l.Points, names("X", api.MaxPoints)...) }, api.ErrFull},
		{"links", func(l *api.Layout) { l.Links = append(l.Links, make([]api.Link, api.MaxLinks)...) }, api.ErrFull},
		{"name of station 0", func(l *api.Layout) { l.Stations[0] = "0" }, api.ErrName},
		{"names of stations 1 and 2", func(l *api.Layout) { l.Stations[2] = l.Stations[1] }, api.ErrDuplicate},
		{"name of station 3", func(l *api.Layout) { l.Stations[3] = "" }, api.ErrName},
		{"names of points 0 and 1", func(l *api.Layout) { l.Points[1] = l.Points[0] }, api.ErrDuplicate},
		{"name of point 2", func(l *api.Layout) { l.Points[2] = "a-b" }, api.ErrName},
		{"names of points 0 and 3", func(l *api.Layout) { l.Points[3] = l.Points[0] }, api.ErrDuplicate},
		{"length of section 0", func(l *api.Layout) { l.Sections[0].Length = 0 }, api.ErrRange},
		{"name of section 1", func(l *api.Layout) { l.Sections[1].Name = "_" }, api.ErrName},
		{"limit of section 1", func(l *api.Layout) { l.Sections[1].Limit = 0 }, api.ErrRange},
		{"names of sections 0 and 2", func(l *api.Layout) { l.Sections[2].Name = l.Sections[0].Name }, api.ErrDuplicate},
		{"grade of section 2", func(l *api.Layout) { l.Sections[2].Grade = 41 }, api.ErrRange},
		{"station of section 3", func(l *api.Layout) { l.Sections[3].Station = 4 }, api.ErrRange},
		{"names of sections 3 and 4", func(l *api.Layout) { l.Sections[4].Name = l.Sections[3].Name }, api.ErrDuplicate},
		{"name of section 5", func(l *api.Layout) { l.Sections[5].Name = "abcdefghijklm" }, api.ErrName},
		{"link 0 from an end to itself", func(l *api.Layout) { l.Links[0].B, l.Links[0].BEnd = l.Links[0].A, l.Links[0].AEnd }, api.ErrArg},
		{"position of link 1", func(l *api.Layout) { l.Links[1].Pos = 1 }, api.ErrRange},
		{"end of link 2", func(l *api.Layout) { l.Links[2].B = 2 }, api.ErrLink},
		{"ends of links 3 and 4", func(l *api.Layout) { l.Links[4] = swapped(l.Links[3]) }, api.ErrDuplicate},
		{"point of link 5", func(l *api.Layout) { l.Links[5].Point = 4 }, api.ErrRange},
		{"link 6 from an end to itself", func(l *api.Layout) { l.Links[6].A, l.Links[6].AEnd = l.Links[6].B, l.Links[6].BEnd }, api.ErrArg},
	}
}

func TestCheckOfTwoErrorsReturnsTheFirst(t *testing.T) {
	faults := faultsInOrder()
	for i, first := range faults {
		expectFault(t, lineLayout(8), first.errno, first.apply)
		for _, second := range faults[i+1:] {
			l := lineLayout(8)
			second.apply(&l)
			first.apply(&l)
			if got := Check(l); got != first.errno {
				t.Errorf("%s, %s: Check = %d; want %d", first.name, second.name, got, first.errno)
			}
		}
	}
}

// Errors of the same link: the range comes before the link to itself, this before the duplicate, and that before the end that is taken.
func TestCheckOfTwoErrorsOfOneLink(t *testing.T) {
	first := plainLink(0, 1, 1, 0)
	for _, c := range []struct {
		second api.Link
		want   api.Errno
	}{
		{switchedLink(0, 1, 0, 1, 2, 0), api.ErrRange},
		{switchedLink(2, 1, 2, 1, -1, 1), api.ErrRange},
		{switchedLink(-1, 0, -1, 0, 0, 1), api.ErrRange},
		{switchedLink(2, 2, 2, 2, 0, 1), api.ErrRange},
		{switchedLink(0, 1, 1, 0, 0, 2), api.ErrRange},
		{switchedLink(0, 1, 2, 0, -2, 0), api.ErrRange},
		{switchedLink(0, 1, 4, 0, -1, 0), api.ErrRange},
		{switchedLink(0, 1, 3, 2, -1, 0), api.ErrRange},
		{plainLink(0, 1, 0, 1), api.ErrArg},
		{switchedLink(1, 0, 1, 0, 0, 1), api.ErrArg},
		{plainLink(1, 0, 0, 1), api.ErrDuplicate},
	} {
		expectCheck(t, linkLayout(first, c.second), c.want)
		expectCheck(t, linkLayout(first, plainLink(2, 0, 2, 1), c.second), c.want)
	}
}

// linksModel checks the links as promise 4.1 says it, with no table.
func linksModel(l api.Layout) api.Errno {
	has := func(link api.Link, section, side int) bool {
		return link.A == section && link.AEnd == side || link.B == section && link.BEnd == side
	}
	for i, link := range l.Links {
		inRange := 0 <= link.A && link.A < len(l.Sections) && 0 <= link.B && link.B < len(l.Sections) &&
			slices.Contains([]int{api.EndA, api.EndB}, link.AEnd) && slices.Contains([]int{api.EndA, api.EndB}, link.BEnd) &&
			link.Point >= -1 && link.Point < len(l.Points) && (link.Pos == 0 || link.Pos == 1 && link.Point != -1)
		if !inRange {
			return api.ErrRange
		}
		if link.A == link.B && link.AEnd == link.BEnd {
			return api.ErrArg
		}
		for _, earlier := range l.Links[:i] {
			if has(earlier, link.A, link.AEnd) && has(earlier, link.B, link.BEnd) {
				return api.ErrDuplicate
			}
		}
		for _, e := range [][2]int{{link.A, link.AEnd}, {link.B, link.BEnd}} {
			var with []api.Link
			for _, earlier := range l.Links[:i] {
				if has(earlier, e[0], e[1]) {
					with = append(with, earlier)
				}
			}
			if len(with) == 0 {
				continue
			}
			if len(with) > 1 || with[0].Point != link.Point || link.Point == -1 || with[0].Pos == link.Pos {
				return api.ErrLink
			}
		}
	}
	return api.OK
}

func namesModel(list []string, number int) api.Errno {
	if !words.Name(list[number]) {
		return api.ErrName
	}
	if slices.Index(list, list[number]) < number {
		return api.ErrDuplicate
	}
	return api.OK
}

// checkModel checks a layout as promise 4.1 says it.
func checkModel(l api.Layout) api.Errno {
	if len(l.Stations) > 24 || len(l.Points) > 48 || len(l.Sections) > 96 || len(l.Links) > 192 {
		return api.ErrFull
	}
	if len(l.Sections) < 1 {
		return api.ErrArg
	}
	for _, list := range [][]string{l.Stations, l.Points} {
		for number := range list {
			if errno := namesModel(list, number); errno != api.OK {
				return errno
			}
		}
	}
	var list []string
	for number, s := range l.Sections {
		list = append(list, s.Name)
		if errno := namesModel(list, number); errno != api.OK {
			return errno
		}
		if s.Length < 1 || s.Length > 400 || s.Limit < 1000 || s.Limit > 100000 || s.Grade < -40 || s.Grade > 40 || s.Station < -1 || s.Station >= len(l.Stations) {
			return api.ErrRange
		}
	}
	return linksModel(l)
}

func TestCheckAgreesWithModel(t *testing.T) {
	counts := map[api.Errno]int{}
	visitRandomLayouts(60000, func(l api.Layout) {
		want := checkModel(l)
		counts[want]++
		expectCheck(t, l, want)
	})
	for _, errno := range []api.Errno{api.OK, api.ErrArg, api.ErrName, api.ErrDuplicate, api.ErrRange, api.ErrLink} {
		if counts[errno] < 100 {
			t.Errorf("only %d of the layouts have the result %d", counts[errno], errno)
		}
	}
}

// allLinks returns the links between the ends of sections with the points of a layout.
func allLinks(l api.Layout) []api.Link {
	var links []api.Link
	for a := range 2 * len(l.Sections) {
		for b := range 2 * len(l.Sections) {
			links = append(links, plainLink(a/2, a%2, b/2, b%2))
			for at := range 2 * len(l.Points) {
				links = append(links, switchedLink(a/2, a%2, b/2, b%2, at/2, at%2))
			}
		}
	}
	return links
}

func TestCheckOfAllLayoutsOfThreeLinks(t *testing.T) {
	l := api.Layout{Points: names("P", 2), Sections: sections(2)}
	links := allLinks(l)
	for _, first := range links {
		for _, second := range links {
			l.Links = []api.Link{first, second}
			if linksModel(l) != api.OK {
				expectCheck(t, l, linksModel(l))
				continue
			}
			for _, third := range links {
				l.Links = []api.Link{first, second, third}
				expectCheck(t, l, linksModel(l))
			}
		}
	}
}

func BenchmarkCheckOfTheFullLayout(b *testing.B) {
	l := fullLayout()
	for b.Loop() {
		Check(l)
	}
}
