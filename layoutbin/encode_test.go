package layoutbin

import (
	"math"
	"strings"
	"testing"

	"railplan/api"
)

func expectEncode(t *testing.T, l api.Layout, want string, wantErrno api.Errno) {
	t.Helper()
	if got, errno := Encode(l); got != want || errno != wantErrno {
		t.Errorf("Encode(%s) = %s, %d; want %s, %d", short(l), short(got), errno, short(want), wantErrno)
	}
}

func TestEncodeOfTheExample(t *testing.T) {
	expectEncode(t, exampleLayout(), exampleBody+exampleSum, api.OK)
}

func TestEncodeOfEachKindOfElement(t *testing.T) {
	expectEncode(t, forkLayout(), sealed(forkItems()...), api.OK)
	for _, c := range []struct {
		l    api.Layout
		want string
	}{
		{
			api.Layout{Stations: []string{"b", "a"}, Sections: []api.Section{{Name: "c", Length: 1, Limit: 1000, Station: 1}}},
			"RPL1\x02\x00\x01\x00\x01b\x01a\x01c\x01\x00\xE8\x03\x00\x28\x02",
		}, {
			api.Layout{Points: []string{"b", "a"}, Sections: []api.Section{{Name: "c", Length: 1, Limit: 1000, Station: -1}}},
			"RPL1\x00\x02\x01\x00\x01b\x01a\x01c\x01\x00\xE8\x03\x00\x28\x00",
		}, {
			api.Layout{Stations: []string{}, Points: []string{}, Sections: []api.Section{{Name: "c", Length: 1, Limit: 1000, Station: -1}}, Links: []api.Link{{A: 0, AEnd: api.EndB, B: 0, BEnd: api.EndA, Point: -1}}},
			"RPL1\x00\x00\x01\x01\x01c\x01\x00\xE8\x03\x00\x28\x00\x01\x00\x00\x00",
		},
	} {
		expectEncode(t, c.l, sealed(c.want), api.OK)
	}
}

func TestEncodeOfNumbersAtTheirBounds(t *testing.T) {
	for _, c := range []struct {
		length, limit, grade, station int
		want                          string
	}{
		{1, 1000, -40, -1, "\x01\x00\xE8\x03\x00\x00\x00"},
		{400, 100000, 40, 23, "\x90\x01\xA0\x86\x01\x50\x18"},
		{255, 65535, -39, 0, "\xFF\x00\xFF\xFF\x00\x01\x01"},
		{256, 65536, 39, 22, "\x00\x01\x00\x00\x01\x4F\x17"},
		{257, 65537, -1, 1, "\x01\x01\x01\x00\x01\x27\x02"},
		{399, 99999, 1, -1, "\x8F\x01\x9F\x86\x01\x29\x00"},
		{2, 1001, 0, -1, "\x02\x00\xE9\x03\x00\x28\x00"},
		{40, 1023, 0, -1, "\x28\x00\xFF\x03\x00\x28\x00"},
		{40, 1024, 0, -1, "\x28\x00\x00\x04\x00\x28\x00"},
	} {
		section := api.Section{Name: "abcdefghijkl", Length: c.length, Limit: c.limit, Grade: c.grade, Station: c.station}
		items := itemsModel(api.Layout{Stations: names("S", api.MaxStations)})
		items[3] = "\x01"
		expectEncode(t, api.Layout{Stations: names("S", api.MaxStations), Sections: []api.Section{section}}, sealed(strings.Join(items, ""), "\x0Cabcdefghijkl", c.want), api.OK)
	}
}

func TestEncodeOfLinksAtTheirBounds(t *testing.T) {
	l := api.Layout{Points: names("P", api.MaxPoints), Sections: sections(api.MaxSections)}
	for _, c := range []struct {
		link api.Link
		want string
	}{
		{api.Link{A: 0, AEnd: 0, B: 95, BEnd: 1, Point: 47, Pos: 1}, "\x00\xBF\x30\x01"},
		{api.Link{A: 95, AEnd: 1, B: 0, BEnd: 0, Point: 47, Pos: 0}, "\xBF\x00\x30\x00"},
		{api.Link{A: 95, AEnd: 0, B: 0, BEnd: 1, Point: 0, Pos: 1}, "\xBE\x01\x01\x01"},
		{api.Link{A: 64, AEnd: 0, B: 63, BEnd: 1, Point: -1, Pos: 0}, "\x80\x7F\x00\x00"},
	} {
		l.Links = []api.Link{c.link}
		items := itemsModel(l)
		items = items[:len(items)-4]
		expectEncode(t, l, sealed(strings.Join(items, ""), c.want), api.OK)
	}
}

func TestEncodeAgreesWithModel(t *testing.T) {
	for _, l := range validLayouts() {
		expectEncode(t, l, sealed(itemsModel(l)...), api.OK)
	}
	// Full lists have greater numbers of elements than a signed byte holds.
	encoding, _ := Encode(fullLayout())
	if want := "RPL1\x18\x30\x60\xC0"; !strings.HasPrefix(encoding, want) {
		t.Errorf("the encoding of the full layout begins with %q; want %q", encoding[:8], want)
	}
}

func TestEncodeOfLayoutsThatAreNotValid(t *testing.T) {
	expectEncode(t, api.Layout{}, "", api.ErrArg)
	expectEncode(t, api.Layout{Stations: names("S", 3), Points: names("P", 3)}, "", api.ErrArg)
	for _, f := range flawedLayouts() {
		expectEncode(t, f.layout, "", api.ErrArg)
	}
}

// Numbers that do not fit into their items.
func TestEncodeOfNumbersBeyondTheirItems(t *testing.T) {
	for _, number := range []int{math.MinInt, -1 << 40, -257, -256, -215, -41, 1 << 24, 1<<24 + 1000, 1 << 40, math.MaxInt} {
		for _, field := range []func(l *api.Layout) *int{
			func(l *api.Layout) *int { return &l.Sections[1].Length },
			func(l *api.Layout) *int { return &l.Sections[1].Limit },
			func(l *api.Layout) *int { return &l.Sections[1].Grade },
			func(l *api.Layout) *int { return &l.Sections[1].Station },
			func(l *api.Layout) *int { return &l.Links[1].A },
			func(l *api.Layout) *int { return &l.Links[1].AEnd },
			func(l *api.Layout) *int { return &l.Links[1].B },
			func(l *api.Layout) *int { return &l.Links[1].BEnd },
			func(l *api.Layout) *int { return &l.Links[1].Point },
			func(l *api.Layout) *int { return &l.Links[1].Pos },
		} {
			expectEncode(t, with(forkLayout(), func(l *api.Layout) { *field(l) = number }), "", api.ErrArg)
		}
	}
	expectEncode(t, with(forkLayout(), func(l *api.Layout) { l.Links[0] = api.Link{A: 0, AEnd: 3, B: 1, Point: 0} }), "", api.ErrArg)
	expectEncode(t, with(forkLayout(), func(l *api.Layout) { l.Links[2] = api.Link{A: 2, AEnd: -1, B: 1, Point: -1} }), "", api.ErrArg)
	expectEncode(t, with(forkLayout(), func(l *api.Layout) { l.Stations = names("S", 1000) }), "", api.ErrArg)
	expectEncode(t, with(forkLayout(), func(l *api.Layout) { l.Sections[0].Name = strings.Repeat("a", 256) }), "", api.ErrArg)
	expectEncode(t, with(forkLayout(), func(l *api.Layout) { l.Points[0] = strings.Repeat("a", 1<<20) }), "", api.ErrArg)
}
