package layoutbin

import (
	"runtime"
	"slices"
	"strings"
	"testing"
	"unsafe"

	"railplan/api"
)

// withSpare returns a list with spare places, which are filled.
func withSpare[T any](list []T, spare T) []T {
	whole := append(slices.Clone(list), spare, spare, spare)
	return whole[:len(list)]
}

// whole returns a layout together with its spare places.
func whole(l api.Layout) api.Layout {
	return api.Layout{
		Stations: l.Stations[:cap(l.Stations)],
		Points:   l.Points[:cap(l.Points)],
		Sections: l.Sections[:cap(l.Sections)],
		Links:    l.Links[:cap(l.Links)],
	}
}

func TestEncodeLeavesItsArgumentAlone(t *testing.T) {
	layouts := append(validLayouts(), api.Layout{})
	for _, f := range flawedLayouts() {
		layouts = append(layouts, f.layout)
	}
	for _, l := range layouts {
		argument := api.Layout{
			Stations: withSpare(l.Stations, "spare"),
			Points:   withSpare(l.Points, "spare"),
			Sections: withSpare(l.Sections, api.Section{Name: "spare"}),
			Links:    withSpare(l.Links, api.Link{A: -7, Point: -7}),
		}
		before := cloneLayout(whole(argument))
		Encode(argument)
		if !equalLayouts(whole(argument), before) {
			t.Errorf("Encode changes its argument %s or the places behind it", short(l))
		}
	}
}

// memory is the first and the last address of a string, or of a list with its spare places.
type memory struct {
	first, last uintptr
	name        string
}

func memoryOf[T any](name string, start *T, length int) []memory {
	size := unsafe.Sizeof(*new(T)) * uintptr(length)
	if size == 0 {
		return nil
	}
	address := uintptr(unsafe.Pointer(start))
	return []memory{{address, address + size - 1, name}}
}

func memoryOfString(name, s string) []memory {
	return memoryOf(name, unsafe.StringData(s), len(s))
}

func memoryOfList[T any](name string, list []T) []memory {
	return memoryOf(name, unsafe.SliceData(list), cap(list))
}

func memoriesOf(name string, l api.Layout) []memory {
	memories := slices.Concat(
		memoryOfList(name+".Stations", l.Stations), memoryOfList(name+".Points", l.Points),
		memoryOfList(name+".Sections", l.Sections), memoryOfList(name+".Links", l.Links),
	)
	for _, s := range slices.Concat(l.Stations, l.Points) {
		memories = append(memories, memoryOfString(name+": the name "+s, s)...)
	}
	for _, s := range l.Sections {
		memories = append(memories, memoryOfString(name+": the name "+s.Name, s.Name)...)
	}
	return memories
}

func expectApart(t *testing.T, memories []memory) {
	t.Helper()
	slices.SortFunc(memories, func(a, b memory) int {
		return slices.Compare([]uintptr{a.first, a.last}, []uintptr{b.first, b.last})
	})
	for i := 1; i < len(memories); i++ {
		if memories[i].first <= memories[i-1].last {
			t.Errorf("%s and %s share memory", memories[i-1].name, memories[i].name)
		}
	}
}

// The results are kept alive until they are compared, because the memory of a result that nobody needs may become that of a later one.
func TestResultsShareNoMemory(t *testing.T) {
	for _, l := range validLayouts() {
		encoding := strings.Clone(sealed(itemsModel(l)...))
		first, _, _ := Decode(encoding)
		second, _, _ := Decode(encoding)
		again, _ := Encode(first)
		onceMore, _ := Encode(first)
		expectApart(t, slices.Concat(
			memoryOfString("the encoding", encoding),
			memoriesOf("the first layout", first),
			memoriesOf("the second layout", second),
			memoryOfString("the first result of Encode", again),
			memoryOfString("the second result of Encode", onceMore),
		))
		runtime.KeepAlive([]api.Layout{first, second})
		runtime.KeepAlive([]string{encoding, again, onceMore})
	}
}

// What a caller writes into a result, or a call that returned an error, leaves nothing behind for the next one.
func TestResultsDependOnTheArgumentsOnly(t *testing.T) {
	encoding := sealed(forkItems()...)
	for range 3 {
		l, _, _ := Decode(encoding)
		for _, list := range [][]string{whole(l).Stations, whole(l).Points} {
			for i := range list {
				list[i] = "overwritten"
			}
		}
		clear(whole(l).Sections)
		clear(whole(l).Links)
		expectDecode(t, encoding, forkLayout())
		expectDecodeError(t, encoding+"x", len(encoding), api.ErrForm)
		expectDecodeError(t, encoding[:30], 28, api.ErrShort)
		expectEncode(t, api.Layout{}, "", api.ErrArg)
		expectEncode(t, forkLayout(), encoding, api.OK)
		expectSum(t, "123456789", 0xCBF43926)
	}
}
