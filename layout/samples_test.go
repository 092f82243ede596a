package layout

import (
	"fmt"
	"math/rand"
	"slices"
	"strconv"
	"testing"

	"railplan/api"
)

const exampleText = `station North
point W
section T 40 33000 0
section N1 20 20000 0 at North
section N2 20 20000 0 at North
link T B N1 A W 0
link T B N2 A W 1
`

// exampleLayout is the layout of exampleText.
func exampleLayout() api.Layout {
	return api.Layout{
		Stations: []string{"North"},
		Points:   []string{"W"},
		Sections: []api.Section{
			{Name: "T", Length: 40, Limit: 33000, Grade: 0, Station: -1},
			{Name: "N1", Length: 20, Limit: 20000, Grade: 0, Station: 0},
			{Name: "N2", Length: 20, Limit: 20000, Grade: 0, Station: 0},
		},
		Links: []api.Link{
			{A: 0, AEnd: api.EndB, B: 1, BEnd: api.EndA, Point: 0, Pos: 0},
			{A: 0, AEnd: api.EndB, B: 2, BEnd: api.EndA, Point: 0, Pos: 1},
		},
	}
}

func section(name string) api.Section {
	return api.Section{Name: name, Length: 40, Limit: 20000, Grade: 0, Station: -1}
}

func plainLink(a, aEnd, b, bEnd int) api.Link {
	return api.Link{A: a, AEnd: aEnd, B: b, BEnd: bEnd, Point: -1}
}

func switchedLink(a, aEnd, b, bEnd, point, pos int) api.Link {
	return api.Link{A: a, AEnd: aEnd, B: b, BEnd: bEnd, Point: point, Pos: pos}
}

func names(prefix string, count int) []string {
	var list []string
	for i := range count {
		list = append(list, prefix+strconv.Itoa(i))
	}
	return list
}

func sections(count int) []api.Section {
	var list []api.Section
	for _, name := range names("T", count) {
		list = append(list, section(name))
	}
	return list
}

// lineLayout returns sections one after another, each end B joined to the next end A, with stations and points that nothing uses.
func lineLayout(count int) api.Layout {
	l := api.Layout{Stations: names("S", 4), Points: names("P", 4), Sections: sections(count)}
	for i := 1; i < count; i++ {
		l.Links = append(l.Links, plainLink(i-1, api.EndB, i, api.EndA))
	}
	return l
}

// fullLayout returns a layout in which each list is as long as permitted: four ends at a time are joined to a ring by the two positions of a point.
func fullLayout() api.Layout {
	l := api.Layout{Stations: names("S", api.MaxStations), Points: names("P", api.MaxPoints), Sections: sections(api.MaxSections)}
	for i := range l.Sections {
		l.Sections[i].Length = i + 1
		l.Sections[i].Limit = api.MinSpeed + 1000*i
		l.Sections[i].Grade = i%(2*api.MaxGrade+1) - api.MaxGrade
		l.Sections[i].Station = i%(api.MaxStations+1) - 1
	}
	for point := range l.Points {
		// The ends 0A, 0B, 1A and 1B of two sections become the ring 0A - 1A - 0B - 1B - 0A.
		first, second := 2*point, 2*point+1
		l.Links = append(l.Links,
			switchedLink(first, api.EndA, second, api.EndA, point, 0),
			switchedLink(first, api.EndB, second, api.EndA, point, 1),
			switchedLink(first, api.EndB, second, api.EndB, point, 0),
			switchedLink(second, api.EndB, first, api.EndA, point, 1),
		)
	}
	return l
}

func cloneLayout(l api.Layout) api.Layout {
	return api.Layout{Stations: slices.Clone(l.Stations), Points: slices.Clone(l.Points), Sections: slices.Clone(l.Sections), Links: slices.Clone(l.Links)}
}

func equalLayouts(a, b api.Layout) bool {
	return slices.Equal(a.Stations, b.Stations) && slices.Equal(a.Points, b.Points) && slices.Equal(a.Sections, b.Sections) && slices.Equal(a.Links, b.Links)
}

// describe keeps large layouts out of the messages.
func describe(l api.Layout) string {
	if text := fmt.Sprintf("%+v", l); len(text) <= 1000 {
		return text
	}
	return fmt.Sprintf("a layout of %d stations, %d points, %d sections and %d links", len(l.Stations), len(l.Points), len(l.Sections), len(l.Links))
}

// stepsOf returns the steps of a layout.
func stepsOf(l api.Layout) []api.Step {
	var steps []api.Step
	for i := range l.Sections {
		steps = append(steps, api.Step{Section: i, Dir: api.Up}, api.Step{Section: i, Dir: api.Down})
	}
	return steps
}

// invalidLayouts returns a layout for each error of Check.
func invalidLayouts() map[api.Errno]api.Layout {
	layouts := map[api.Errno]api.Layout{}
	add := func(errno api.Errno, fault func(l *api.Layout)) {
		l := exampleLayout()
		fault(&l)
		layouts[errno] = l
	}
	add(api.ErrFull, func(l *api.Layout) { l.Stations = names("S", api.MaxStations+1) })
	add(api.ErrArg, func(l *api.Layout) { l.Links = append(l.Links, plainLink(1, api.EndB, 1, api.EndB)) })
	add(api.ErrName, func(l *api.Layout) { l.Points = append(l.Points, "9") })
	add(api.ErrDuplicate, func(l *api.Layout) { l.Sections = append(l.Sections, section("N1")) })
	add(api.ErrRange, func(l *api.Layout) { l.Sections[2].Length = 0 })
	add(api.ErrLink, func(l *api.Layout) { l.Links[1].Pos = 0 })
	return layouts
}

// chance returns true once in n times.
func chance(random *rand.Rand, n int) bool {
	return random.Intn(n) == 0
}

// pick returns one of the values.
func pick[T any](random *rand.Rand, values ...T) T {
	return values[random.Intn(len(values))]
}

// randomLayout returns a small layout whose elements are wrong now and then.
func randomLayout(random *rand.Rand) api.Layout {
	l := api.Layout{
		Stations: randomNames(random, random.Intn(3)),
		Points:   randomNames(random, random.Intn(4)),
	}
	for _, name := range randomNames(random, pick(random, 1, 2, 3, 4, 5, 6, 7)) {
		station := random.Intn(len(l.Stations)+1) - 1
		if chance(random, 60) {
			station = pick(random, -2, len(l.Stations))
		}
		l.Sections = append(l.Sections, api.Section{
			Name:    name,
			Length:  randomBetween(random, 1, api.MaxLength),
			Limit:   randomBetween(random, api.MinSpeed, api.MaxSpeed),
			Grade:   randomBetween(random, -api.MaxGrade, api.MaxGrade),
			Station: station,
		})
	}
	for range random.Intn(10) {
		if link, free := randomLink(random, l); free || chance(random, 10) {
			l.Links = append(l.Links, link)
		}
	}
	return l
}

// randomNames returns names that differ, as a rule.
func randomNames(random *rand.Rand, count int) []string {
	list := names(pick(random, "a", "Zz_"), count)
	if chance(random, 30) && count > 0 {
		list[random.Intn(count)] = pick(random, "", "0", "_a", "a-", "a0", "a1", "Zz_0", "abcdefghijklm")
	}
	return list
}

// randomBetween returns a number between bounds, often one of them, and now and then one beyond them.
func randomBetween(random *rand.Rand, least, greatest int) int {
	switch random.Intn(80) {
	case 0:
		return least - 1
	case 1:
		return greatest + 1
	case 2, 3, 4, 5, 6:
		return least
	case 7, 8, 9, 10, 11:
		return greatest
	}
	return least + random.Intn(greatest-least+1)
}

// randomLink returns a link, and whether the layout would permit it.
func randomLink(random *rand.Rand, l api.Layout) (api.Link, bool) {
	number := func(length int) int {
		if length == 0 || chance(random, 80) {
			return pick(random, -1, length)
		}
		return random.Intn(length)
	}
	link := api.Link{A: number(len(l.Sections)), AEnd: number(2), B: number(len(l.Sections)), BEnd: number(2), Point: -1}
	if !chance(random, 4) {
		link.Point = number(len(l.Points))
	}
	if link.Point >= 0 || chance(random, 20) {
		link.Pos = number(2)
	}
	l = cloneLayout(l)
	l.Links = append(l.Links, link)
	return link, linksModel(l) == api.OK
}

// visitRandomLayouts calls a function with many layouts, about a half of which are valid.
func visitRandomLayouts(count int, visit func(l api.Layout)) {
	random := rand.New(rand.NewSource(4))
	for range count {
		visit(randomLayout(random))
	}
}

func TestSamplesAreValid(t *testing.T) {
	for _, l := range []api.Layout{exampleLayout(), lineLayout(1), lineLayout(7), fullLayout()} {
		expectCheck(t, l, api.OK)
	}
	full := fullLayout()
	if len(full.Stations) != api.MaxStations || len(full.Points) != api.MaxPoints || len(full.Sections) != api.MaxSections || len(full.Links) != api.MaxLinks {
		t.Errorf("the full layout has %d stations, %d points, %d sections and %d links", len(full.Stations), len(full.Points), len(full.Sections), len(full.Links))
	}
	layouts := invalidLayouts()
	for _, want := range []api.Errno{api.ErrFull, api.ErrArg, api.ErrName, api.ErrDuplicate, api.ErrRange, api.ErrLink} {
		expectCheck(t, layouts[want], want)
	}
}
