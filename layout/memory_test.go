package layout

import (
	"fmt"
	"runtime"
	"slices"
	"strings"
	"testing"
	"unsafe"

	"railplan/api"
)

// withSpare returns a list with spare places, which are filled.
func withSpare[T any](list []T, spare T) []T {
	whole := append(slices.Clone(list), spare, spare, spare)
	return whole[:len(list)]
}

// spacious returns a layout with spare places behind each of its lists.
func spacious(l api.Layout) api.Layout {
	return api.Layout{
		Stations: withSpare(l.Stations, "spare"),
		Points:   withSpare(l.Points, "spare"),
		Sections: withSpare(l.Sections, section("spare")),
		Links:    withSpare(l.Links, plainLink(-7, -7, -7, -7)),
	}
}

// whole returns a layout together with its spare places.
func whole(l api.Layout) api.Layout {
	return api.Layout{
		Stations: l.Stations[:cap(l.Stations)],
		Points:   l.Points[:cap(l.Points)],
		Sections: l.Sections[:cap(l.Sections)],
		Links:    l.Links[:cap(l.Links)],
	}
}

func expectUntouched(t *testing.T, call string, l api.Layout, use func(l api.Layout)) {
	t.Helper()
	argument := spacious(l)
	before := cloneLayout(whole(argument))
	use(argument)
	if !equalLayouts(whole(argument), before) {
		t.Errorf("%s changes its argument %s or the places behind it", call, describe(l))
	}
}

func TestArgumentsAreLeftAlone(t *testing.T) {
	layouts := []api.Layout{{}, exampleLayout(), lineLayout(9), fullLayout()}
	for _, l := range invalidLayouts() {
		layouts = append(layouts, l)
	}
	for _, l := range layouts {
		expectUntouched(t, "Check", l, func(l api.Layout) { Check(l) })
		expectUntouched(t, "Resources", l, func(l api.Layout) { Resources(l) })
		expectUntouched(t, "Format", l, func(l api.Layout) { Format(l) })
		for _, s := range append(stepsOf(l), api.Step{Section: -1}, api.Step{Dir: 2}) {
			expectUntouched(t, "Has", l, func(l api.Layout) { Has(l, s) })
			expectUntouched(t, "Hops", l, func(l api.Layout) {
				hops := Hops(l, s)
				hops = append(hops, api.Hop{To: up(-8), Point: -8, Pos: -8})
				for i := range hops {
					hops[i] = api.Hop{To: up(-9), Point: -9, Pos: -9}
				}
			})
		}
	}
}

// memory is the first and the last address of a slice with its spare places, or of a string.
type memory struct {
	name        string
	first, last uintptr
}

func memoryOf[T any](name string, start *T, length int) []memory {
	size := unsafe.Sizeof(*new(T)) * uintptr(length)
	if start == nil || size == 0 {
		return nil
	}
	address := uintptr(unsafe.Pointer(start))
	return []memory{{name, address, address + size - 1}}
}

func memoryOfList[T any](name string, list []T) []memory {
	return memoryOf(name, unsafe.SliceData(list), cap(list))
}

func memoryOfString(name, s string) []memory {
	return memoryOf(name, unsafe.StringData(s), len(s))
}

func memoriesOf(name string, l api.Layout) []memory {
	memories := slices.Concat(
		memoryOfList(name+".Stations", l.Stations), memoryOfList(name+".Points", l.Points),
		memoryOfList(name+".Sections", l.Sections), memoryOfList(name+".Links", l.Links),
	)
	for list, count := range []int{len(l.Stations), len(l.Points), len(l.Sections)} {
		for number := range count {
			memories = append(memories, memoryOfString(fmt.Sprintf("%s: name %d of list %d", name, number, list), nameOf(l, list, number))...)
		}
	}
	return memories
}

func expectApart(t *testing.T, memories []memory) {
	t.Helper()
	slices.SortFunc(memories, func(a, b memory) int {
		return slices.Compare([]uintptr{a.first, a.last}, []uintptr{b.first, b.last})
	})
	for i := 1; i < len(memories); i++ {
		if memories[i].first <= memories[i-1].last {
			t.Errorf("%s and %s share memory", memories[i-1].name, memories[i].name)
		}
	}
}

// parsed returns the layout of a text, whose names have memory of their own.
func parsed(t *testing.T, src string) api.Layout {
	t.Helper()
	l, _, errno := Parse(src)
	if errno != api.OK {
		t.Fatalf("Parse(%s): error %d", short(src), errno)
	}
	return l
}

// The results are kept alive until they are compared, because the memory of a result that nobody needs may become that of a later one.
func TestResultsOfParseShareNoMemory(t *testing.T) {
	for _, src := range []string{exampleText, Format(fullLayout()), strings.Repeat("#", 100) + "\n" + head} {
		first, second := parsed(t, src), parsed(t, src)
		expectApart(t, slices.Concat(memoryOfString("src", src), memoriesOf("first", first), memoriesOf("second", second)))
		runtime.KeepAlive([]api.Layout{first, second})
	}
}

func TestResultsOfFormatShareNoMemory(t *testing.T) {
	for _, src := range []string{exampleText, Format(fullLayout()), "section T 40 20000 0\n"} {
		l := parsed(t, src)
		first, second := Format(l), Format(l)
		expectApart(t, slices.Concat(memoryOfString("src", src), memoriesOf("l", l), memoryOfString("first", first), memoryOfString("second", second)))
		runtime.KeepAlive(l)
		runtime.KeepAlive([]string{first, second})
	}
}

func TestResultsOfHopsShareNoMemory(t *testing.T) {
	for _, l := range []api.Layout{exampleLayout(), lineLayout(4), fullLayout()} {
		memories := memoryOfList("l.Links", l.Links)
		var results [][]api.Hop
		for _, s := range append(stepsOf(l), stepsOf(l)...) {
			hops := Hops(l, s)
			results = append(results, hops)
			memories = append(memories, memoryOfList(fmt.Sprintf("Hops(%v)", s), hops)...)
		}
		expectApart(t, memories)
		runtime.KeepAlive(l)
		runtime.KeepAlive(results)
	}
}

// A call that returned an error, or another result, leaves nothing behind for the next one.
func TestResultsDependOnTheArgumentsOnly(t *testing.T) {
	for range 3 {
		expectParse(t, exampleText, exampleLayout())
		expectParseError(t, exampleText+"nonsense\n", 8, api.ErrForm)
		expectParseError(t, exampleText+exampleText, 0, api.ErrDuplicate)
		expectParseError(t, "link T A T B\n", 1, api.ErrName)
		expectParseOfFormat(t, fullLayout())
		expectCheck(t, invalidLayouts()[api.ErrLink], api.ErrLink)
		expectHops(t, exampleLayout(), down(2), api.Hop{To: down(0), Point: 0, Pos: 1})
	}
}
