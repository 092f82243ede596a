package layout

import (
	"math"
	"slices"
	"testing"

	"railplan/api"
)

var strangeNumbers = []int{math.MinInt, -1 << 40, -3, -2, -1, 2, 3, 1 << 40, math.MaxInt}

func up(section int) api.Step   { return api.Step{Section: section, Dir: api.Up} }
func down(section int) api.Step { return api.Step{Section: section, Dir: api.Down} }

func expectHas(t *testing.T, l api.Layout, s api.Step, want bool) {
	t.Helper()
	if got := Has(l, s); got != want {
		t.Errorf("Has(%s, %v) = %t; want %t", describe(l), s, got, want)
	}
}

func TestHas(t *testing.T) {
	for _, l := range []api.Layout{exampleLayout(), lineLayout(1), lineLayout(5), fullLayout()} {
		for _, s := range stepsOf(l) {
			expectHas(t, l, s, true)
			for _, dir := range strangeNumbers {
				expectHas(t, l, api.Step{Section: s.Section, Dir: dir}, false)
			}
		}
		for dir := range 2 {
			for _, section := range []int{math.MinInt, -2, -1, len(l.Sections), len(l.Sections) + 1, len(l.Sections) + len(l.Points), 2 * api.MaxSections, math.MaxInt} {
				expectHas(t, l, api.Step{Section: section, Dir: dir}, false)
			}
		}
	}
}

func TestHasOfLayoutsThatAreNotValid(t *testing.T) {
	expectHas(t, api.Layout{}, up(0), false)
	for _, l := range invalidLayouts() {
		for _, s := range stepsOf(l) {
			expectHas(t, l, s, false)
		}
	}
}

func TestReverse(t *testing.T) {
	for _, section := range []int{math.MinInt, -1, 0, 1, 7, api.MaxSections, math.MaxInt} {
		expectReverse := func(dir, want int) {
			t.Helper()
			got := Reverse(api.Step{Section: section, Dir: dir})
			if got != (api.Step{Section: section, Dir: want}) {
				t.Errorf("Reverse({%d %d}) = %v; want {%d %d}", section, dir, got, section, want)
			}
		}
		expectReverse(api.Up, api.Down)
		expectReverse(api.Down, api.Up)
		for _, dir := range strangeNumbers {
			expectReverse(dir, api.Up)
		}
	}
}

func expectHops(t *testing.T, l api.Layout, s api.Step, want ...api.Hop) {
	t.Helper()
	if got := Hops(l, s); !slices.Equal(got, want) {
		t.Errorf("Hops(%s, %v) = %v; want %v", describe(l), s, got, want)
	}
}

func TestHopsOfTheExample(t *testing.T) {
	l := exampleLayout()
	expectHops(t, l, up(0), api.Hop{To: up(1), Point: 0, Pos: 0}, api.Hop{To: up(2), Point: 0, Pos: 1})
	expectHops(t, l, down(2), api.Hop{To: down(0), Point: 0, Pos: 1})
	expectHops(t, l, down(1), api.Hop{To: down(0), Point: 0, Pos: 0})
	expectHops(t, l, down(0))
	expectHops(t, l, up(1))
	expectHops(t, l, up(2))
}

// Each pair of ends, met from either side, with the link written in either order.
func TestHopsOfOneLink(t *testing.T) {
	for _, link := range []api.Link{plainLink(1, 1, 2, 0), plainLink(1, 0, 2, 1), plainLink(1, 0, 2, 0), switchedLink(1, 1, 2, 1, 1, 1), switchedLink(1, 0, 2, 0, 0, 0)} {
		// A train leaves a section upwards at its end B, and enters it upwards at its end A.
		leaves := map[int]int{api.EndA: api.Down, api.EndB: api.Up}
		enters := map[int]int{api.EndA: api.Up, api.EndB: api.Down}
		for _, turnedLink := range turned(link) {
			l := linkLayout(turnedLink)
			there, back := api.Step{Section: 1, Dir: leaves[link.AEnd]}, api.Step{Section: 2, Dir: leaves[link.BEnd]}
			expectHops(t, l, there, api.Hop{To: api.Step{Section: 2, Dir: enters[link.BEnd]}, Point: link.Point, Pos: link.Pos})
			expectHops(t, l, back, api.Hop{To: api.Step{Section: 1, Dir: enters[link.AEnd]}, Point: link.Point, Pos: link.Pos})
			for _, s := range stepsOf(l) {
				if s != there && s != back {
					expectHops(t, l, s)
				}
			}
		}
	}
}

func TestHopsAreInTheOrderOfTheLinks(t *testing.T) {
	for _, left := range turned(switchedLink(0, 1, 2, 0, 1, 1)) {
		for _, right := range turned(switchedLink(0, 1, 1, 1, 1, 0)) {
			toLeft, toRight := api.Hop{To: up(2), Point: 1, Pos: 1}, api.Hop{To: down(1), Point: 1, Pos: 0}
			expectHops(t, linkLayout(left, right), up(0), toLeft, toRight)
			expectHops(t, linkLayout(right, left), up(0), toRight, toLeft)
			expectHops(t, linkLayout(right, plainLink(3, 0, 3, 1), left), up(0), toRight, toLeft)
			expectHops(t, linkLayout(right, left), down(2), api.Hop{To: down(0), Point: 1, Pos: 1})
			expectHops(t, linkLayout(right, left), up(1), api.Hop{To: down(0), Point: 1, Pos: 0})
		}
	}
}

func TestHopsIntoTheSameSection(t *testing.T) {
	for _, link := range turned(plainLink(2, api.EndA, 2, api.EndB)) {
		expectHops(t, linkLayout(link), up(2), api.Hop{To: up(2), Point: -1})
		expectHops(t, linkLayout(link), down(2), api.Hop{To: down(2), Point: -1})
	}
	// A loop: the train comes back to the section in the other direction.
	l := linkLayout(switchedLink(0, 1, 1, 0, 0, 0), switchedLink(1, 1, 0, 1, 0, 1))
	expectHops(t, l, up(0), api.Hop{To: up(1), Point: 0, Pos: 0}, api.Hop{To: down(1), Point: 0, Pos: 1})
	expectHops(t, l, up(1), api.Hop{To: down(0), Point: 0, Pos: 1})
	expectHops(t, l, down(1), api.Hop{To: down(0), Point: 0, Pos: 0})
}

func TestHopsOfStepsThatAreNone(t *testing.T) {
	l := lineLayout(3)
	for _, dir := range strangeNumbers {
		expectNoHops(t, l, api.Step{Section: 1, Dir: dir})
	}
	for _, section := range []int{math.MinInt, -1, 3, 4, 96, math.MaxInt} {
		expectNoHops(t, l, up(section))
		expectNoHops(t, l, down(section))
	}
	expectNoHops(t, api.Layout{}, up(0))
	for _, l := range invalidLayouts() {
		for _, s := range stepsOf(l) {
			expectNoHops(t, l, s)
		}
	}
}

// expectNoHops also tells nil from an empty list, since the chapter says nil here.
func expectNoHops(t *testing.T, l api.Layout, s api.Step) {
	t.Helper()
	if got := Hops(l, s); got != nil {
		t.Errorf("Hops(%s, %v) = %v; want nil", describe(l), s, got)
	}
}

// hopsModel returns the hops of a valid layout as promise 4.2 says it.
func hopsModel(l api.Layout, s api.Step) []api.Hop {
	var hops []api.Hop
	exit := map[int]int{api.Up: api.EndB, api.Down: api.EndA}[s.Dir]
	enter := map[int]int{api.EndA: api.Up, api.EndB: api.Down}
	for _, link := range l.Links {
		for _, k := range turned(link) {
			if k.A == s.Section && k.AEnd == exit {
				hops = append(hops, api.Hop{To: api.Step{Section: k.B, Dir: enter[k.BEnd]}, Point: k.Point, Pos: k.Pos})
			}
		}
	}
	return hops
}

func TestHopsAgreeWithModel(t *testing.T) {
	counts := map[int]int{}
	compare := func(l api.Layout) {
		for _, s := range stepsOf(l) {
			if Check(l) != api.OK {
				expectHops(t, l, s)
				continue
			}
			want := hopsModel(l, s)
			counts[len(want)]++
			expectHops(t, l, s, want...)
		}
	}
	visitRandomLayouts(20000, compare)
	compare(fullLayout())
	for count := range 3 {
		if counts[count] < 1000 {
			t.Errorf("only %d of the steps have %d hops", counts[count], count)
		}
	}
}

// A step is reached from another one exactly if the other's reverse is reached from its reverse, through the same point in the same position.
func TestHopsLeadBack(t *testing.T) {
	compare := func(l api.Layout) {
		for _, s := range stepsOf(l) {
			for _, hop := range Hops(l, s) {
				back := api.Hop{To: Reverse(s), Point: hop.Point, Pos: hop.Pos}
				if !slices.Contains(Hops(l, Reverse(hop.To)), back) {
					t.Errorf("%s: %v leads to %v, but its reverse does not lead back", describe(l), s, hop)
				}
			}
		}
	}
	visitRandomLayouts(5000, compare)
	for _, l := range []api.Layout{exampleLayout(), lineLayout(20), fullLayout()} {
		compare(l)
	}
}

func expectResources(t *testing.T, l api.Layout, want int) {
	t.Helper()
	if got := Resources(l); got != want {
		t.Errorf("Resources(%s) = %d; want %d", describe(l), got, want)
	}
}

func TestResources(t *testing.T) {
	expectResources(t, exampleLayout(), 4)
	expectResources(t, api.Layout{Sections: sections(1)}, 1)
	expectResources(t, api.Layout{Stations: names("S", 7), Sections: sections(3)}, 3)
	expectResources(t, api.Layout{Points: names("P", 9), Sections: sections(1)}, 10)
	expectResources(t, lineLayout(6), 10)
	expectResources(t, fullLayout(), api.MaxResources)
	expectResources(t, api.Layout{}, 0)
	expectResources(t, api.Layout{Points: names("P", 9)}, 0)
	for _, l := range invalidLayouts() {
		expectResources(t, l, 0)
	}
}
