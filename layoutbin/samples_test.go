package layoutbin

import (
	"fmt"
	"hash/crc32"
	"slices"
	"strconv"
	"testing"

	"railplan/api"
	"railplan/layout"
)

// exampleLayout is the layout of the chapter's example.
func exampleLayout() api.Layout {
	return api.Layout{Sections: []api.Section{{Name: "X", Length: 2, Limit: 1000, Grade: 0, Station: -1}}}
}

// exampleBody is the encoding of exampleLayout without its sum.
const exampleBody = "RPL1\x00\x00\x01\x00\x01X\x02\x00\xE8\x03\x00\x28\x00"

// exampleSum is the last item of that encoding.
const exampleSum = "\x4F\x9D\xAF\xB6"

// forkLayout has each kind of element, and a name of each length from 1 to 4.
func forkLayout() api.Layout {
	return api.Layout{
		Stations: []string{"Nord", "Sud"},
		Points:   []string{"W"},
		Sections: []api.Section{
			{Name: "T", Length: 40, Limit: 33000, Grade: -3, Station: -1},
			{Name: "N1", Length: 300, Limit: 20000, Grade: 0, Station: 0},
			{Name: "N2", Length: 256, Limit: 70000, Grade: 12, Station: 1},
		},
		Links: []api.Link{
			{A: 0, AEnd: api.EndB, B: 1, BEnd: api.EndA, Point: 0, Pos: 0},
			{A: 2, AEnd: api.EndA, B: 0, BEnd: api.EndB, Point: 0, Pos: 1},
			{A: 2, AEnd: api.EndB, B: 1, BEnd: api.EndB, Point: -1, Pos: 0},
		},
	}
}

// forkItems are the items of the encoding of forkLayout, but for the sum.
func forkItems() []string {
	return []string{
		"RPL1", "\x02", "\x01", "\x03", "\x03",
		"\x04Nord", "\x03Sud",
		"\x01W",
		"\x01T", "\x28\x00", "\xE8\x80\x00", "\x25", "\x00",
		"\x02N1", "\x2C\x01", "\x20\x4E\x00", "\x28", "\x01",
		"\x02N2", "\x00\x01", "\x70\x11\x01", "\x34", "\x02",
		"\x01", "\x02", "\x01", "\x00",
		"\x04", "\x01", "\x01", "\x01",
		"\x05", "\x03", "\x00", "\x00",
	}
}

func names(prefix string, count int) []string {
	var list []string
	for i := range count {
		list = append(list, prefix+strconv.Itoa(i))
	}
	return list
}

func sections(count int) []api.Section {
	var list []api.Section
	for _, name := range names("T", count) {
		list = append(list, api.Section{Name: name, Length: 40, Limit: 20000, Station: -1})
	}
	return list
}

// fullLayout returns a layout in which each list is as long as permitted, and each number has many of its values.
func fullLayout() api.Layout {
	l := api.Layout{Stations: names("S", api.MaxStations), Points: names("P", api.MaxPoints), Sections: sections(api.MaxSections)}
	for i := range l.Sections {
		l.Sections[i].Length = 1 + i*(api.MaxLength-1)/(api.MaxSections-1)
		l.Sections[i].Limit = api.MinSpeed + i*(api.MaxSpeed-api.MinSpeed)/(api.MaxSections-1)
		l.Sections[i].Grade = i%(2*api.MaxGrade+1) - api.MaxGrade
		l.Sections[i].Station = i%(api.MaxStations+1) - 1
	}
	for point := range l.Points {
		// The ends 0A, 0B, 1A and 1B of two sections become the ring 0A - 1A - 0B - 1B - 0A.
		first, second := 2*point, 2*point+1
		l.Links = append(l.Links,
			api.Link{A: first, AEnd: api.EndA, B: second, BEnd: api.EndA, Point: point, Pos: 0},
			api.Link{A: first, AEnd: api.EndB, B: second, BEnd: api.EndA, Point: point, Pos: 1},
			api.Link{A: first, AEnd: api.EndB, B: second, BEnd: api.EndB, Point: point, Pos: 0},
			api.Link{A: second, AEnd: api.EndB, B: first, BEnd: api.EndA, Point: point, Pos: 1},
		)
	}
	return l
}

// validLayouts returns layouts with and without each kind of element.
func validLayouts() []api.Layout {
	ring := api.Link{A: 0, AEnd: api.EndB, B: 0, BEnd: api.EndA, Point: -1}
	return []api.Layout{
		exampleLayout(),
		forkLayout(),
		{Stations: names("S", 3), Sections: sections(2)},
		{Points: names("P", 3), Sections: sections(2)},
		{Sections: sections(2), Links: []api.Link{ring}},
		{Stations: []string{"a"}, Points: []string{"a"}, Sections: sections(1)},
		{Stations: []string{"abcdefghijkl"}, Sections: sections(3), Links: []api.Link{ring}},
		{Stations: []string{}, Points: []string{"p"}, Sections: sections(1), Links: []api.Link{ring}},
		{Stations: names("S", api.MaxStations), Sections: sections(1)},
		{Points: names("P", api.MaxPoints), Sections: sections(1)},
		{Sections: sections(api.MaxSections)},
		fullLayout(),
	}
}

// with returns a copy of a layout that is changed.
func with(l api.Layout, change func(l *api.Layout)) api.Layout {
	l = cloneLayout(l)
	change(&l)
	return l
}

// flawed is a layout that is not valid, and the error that Check returns for it.
type flawed struct {
	layout api.Layout
	errno  api.Errno
}

// flawedLayouts returns layouts that are not valid, but whose numbers have a place in an encoding.
func flawedLayouts() []flawed {
	var list []flawed
	add := func(errno api.Errno, change func(l *api.Layout)) {
		list = append(list, flawed{with(forkLayout(), change), errno})
	}
	for _, count := range []int{api.MaxStations + 1, 255} {
		add(api.ErrFull, func(l *api.Layout) { l.Stations = names("S", count) })
	}
	for _, count := range []int{api.MaxPoints + 1, 255} {
		add(api.ErrFull, func(l *api.Layout) { l.Points = names("P", count) })
	}
	for _, count := range []int{api.MaxSections + 1, 255} {
		add(api.ErrFull, func(l *api.Layout) { l.Sections = sections(count) })
	}
	for _, count := range []int{api.MaxLinks + 1, 255} {
		add(api.ErrFull, func(l *api.Layout) { l.Links = make([]api.Link, count) })
	}
	add(api.ErrArg, func(l *api.Layout) { *l = api.Layout{} })
	add(api.ErrArg, func(l *api.Layout) { l.Sections = nil })
	for _, name := range []string{"", "1", "a-b", "abcdefghijklm", "a\x00", "\xFF", string(make([]byte, 255))} {
		add(api.ErrName, func(l *api.Layout) { l.Stations[1] = name })
		add(api.ErrName, func(l *api.Layout) { l.Points[0] = name })
		add(api.ErrName, func(l *api.Layout) { l.Sections[2].Name = name })
	}
	add(api.ErrDuplicate, func(l *api.Layout) { l.Stations[1] = "Nord" })
	add(api.ErrDuplicate, func(l *api.Layout) { l.Points = []string{"W", "V", "W"} })
	add(api.ErrDuplicate, func(l *api.Layout) { l.Sections[2].Name = "T" })
	for _, length := range []int{0, 401, 512, 65535} {
		add(api.ErrRange, func(l *api.Layout) { l.Sections[1].Length = length })
	}
	for _, limit := range []int{0, 999, 100001, 1<<24 - 1} {
		add(api.ErrRange, func(l *api.Layout) { l.Sections[1].Limit = limit })
	}
	for _, grade := range []int{41, 88, 215} {
		add(api.ErrRange, func(l *api.Layout) { l.Sections[1].Grade = grade })
	}
	for _, station := range []int{2, 24, 127, 254} {
		add(api.ErrRange, func(l *api.Layout) { l.Sections[1].Station = station })
	}
	for _, section := range []int{3, 95, 127} {
		add(api.ErrRange, func(l *api.Layout) { l.Links[1].A = section })
		add(api.ErrRange, func(l *api.Layout) { l.Links[2].B = section })
	}
	for _, point := range []int{1, 47, 254} {
		add(api.ErrRange, func(l *api.Layout) { l.Links[1].Point = point })
	}
	for _, pos := range []int{2, 128, 255} {
		add(api.ErrRange, func(l *api.Layout) { l.Links[1].Pos = pos })
	}
	add(api.ErrRange, func(l *api.Layout) { l.Links[2].Pos = 1 })
	add(api.ErrArg, func(l *api.Layout) { l.Links[2] = api.Link{A: 1, AEnd: api.EndB, B: 1, BEnd: api.EndB, Point: -1} })
	add(api.ErrDuplicate, func(l *api.Layout) { l.Links[1] = l.Links[0] })
	add(api.ErrLink, func(l *api.Layout) { l.Links[1].Pos = 0 })
	add(api.ErrLink, func(l *api.Layout) { l.Links[1].Point = -1; l.Links[1].Pos = 0 })
	return list
}

func cloneLayout(l api.Layout) api.Layout {
	return api.Layout{Stations: slices.Clone(l.Stations), Points: slices.Clone(l.Points), Sections: slices.Clone(l.Sections), Links: slices.Clone(l.Links)}
}

func equalLayouts(a, b api.Layout) bool {
	return slices.Equal(a.Stations, b.Stations) && slices.Equal(a.Points, b.Points) && slices.Equal(a.Sections, b.Sections) && slices.Equal(a.Links, b.Links)
}

// short keeps large values out of the messages.
func short(value any) string {
	text := fmt.Sprintf("%#v", value)
	if len(text) <= 1000 {
		return text
	}
	return text[:500] + " ... " + text[len(text)-400:]
}

// numberItem returns the bytes of a number, the least significant one first.
func numberItem(value, size int) string {
	var item []byte
	for range size {
		item = append(item, byte(value%256))
		value /= 256
	}
	return string(item)
}

func nameItem(name string) string {
	return string([]byte{byte(len(name))}) + name
}

// sumItem returns the sum of the bytes before it, as another program computes it.
func sumItem(before string) string {
	return numberItem(int(crc32.ChecksumIEEE([]byte(before))), 4)
}

// itemsModel returns the items of promise 5.2, but for the sum, of a layout that need not be valid.
func itemsModel(l api.Layout) []string {
	items := []string{"RPL1", numberItem(len(l.Stations), 1), numberItem(len(l.Points), 1), numberItem(len(l.Sections), 1), numberItem(len(l.Links), 1)}
	for _, name := range l.Stations {
		items = append(items, nameItem(name))
	}
	for _, name := range l.Points {
		items = append(items, nameItem(name))
	}
	for _, s := range l.Sections {
		items = append(items, nameItem(s.Name), numberItem(s.Length, 2), numberItem(s.Limit, 3), numberItem(s.Grade+40, 1), numberItem(s.Station+1, 1))
	}
	for _, k := range l.Links {
		items = append(items, numberItem(k.A*2+k.AEnd, 1), numberItem(k.B*2+k.BEnd, 1), numberItem(k.Point+1, 1), numberItem(k.Pos, 1))
	}
	return items
}

// sealed returns an encoding whose items before the sum are given.
func sealed(items ...string) string {
	before := ""
	for _, item := range items {
		before += item
	}
	return before + sumItem(before)
}

func TestSamples(t *testing.T) {
	for _, l := range validLayouts() {
		if errno := layout.Check(l); errno != api.OK {
			t.Errorf("Check(%s) = %d; want %d", short(l), errno, api.OK)
		}
	}
	full := fullLayout()
	if len(full.Stations) != api.MaxStations || len(full.Points) != api.MaxPoints || len(full.Sections) != api.MaxSections || len(full.Links) != api.MaxLinks {
		t.Errorf("the full layout has %d stations, %d points, %d sections and %d links", len(full.Stations), len(full.Points), len(full.Sections), len(full.Links))
	}
	counts := map[api.Errno]int{}
	for _, f := range flawedLayouts() {
		counts[f.errno]++
		if errno := layout.Check(f.layout); errno != f.errno {
			t.Errorf("Check(%s) = %d; want %d", short(f.layout), errno, f.errno)
		}
	}
	for _, errno := range []api.Errno{api.ErrFull, api.ErrArg, api.ErrName, api.ErrDuplicate, api.ErrRange, api.ErrLink} {
		if counts[errno] == 0 {
			t.Errorf("no layout has the error %d", errno)
		}
	}
}
