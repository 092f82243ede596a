package layoutbin

import (
	"math/rand"
	"strings"
	"testing"

	"railplan/api"
	"railplan/layout"
)

func expectDecode(t *testing.T, s string, want api.Layout) {
	t.Helper()
	got, position, errno := Decode(s)
	if !equalLayouts(got, want) || position != 0 || errno != api.OK {
		t.Errorf("Decode(%s) = %s, %d, %d; want %s", short(s), short(got), position, errno, short(want))
	}
}

func expectDecodeError(t *testing.T, s string, wantPosition int, want api.Errno) {
	t.Helper()
	got, position, errno := Decode(s)
	if position != wantPosition || errno != want {
		t.Errorf("Decode(%s): error %d at %d; want error %d at %d", short(s), errno, position, want, wantPosition)
	}
	if got.Stations != nil || got.Points != nil || got.Sections != nil || got.Links != nil {
		t.Errorf("Decode(%s) returns the layout %s together with an error", short(s), short(got))
	}
}

// expectShort checks all proper beginnings of an encoding, whose items are given.
func expectShort(t *testing.T, items []string) {
	t.Helper()
	encoding, position := strings.Join(items, ""), 0
	for _, item := range items {
		for present := range len(item) {
			expectDecodeError(t, encoding[:position+present], position, api.ErrShort)
		}
		position += len(item)
	}
}

func TestDecode(t *testing.T) {
	expectDecode(t, exampleBody+exampleSum, exampleLayout())
	expectDecode(t, sealed(forkItems()...), forkLayout())
	expectDecode(t, sealed("RPL1\x00\x00\x01\x00\x0Cabcdefghijkl\x90\x01\xA0\x86\x01\x50\x00"),
		api.Layout{Sections: []api.Section{{Name: "abcdefghijkl", Length: 400, Limit: 100000, Grade: 40, Station: -1}}})
	expectDecode(t, sealed("RPL1\x01\x00\x01\x00\x01s\x01s\x01\x00\xFF\xFF\x00\x00\x01"),
		api.Layout{Stations: []string{"s"}, Sections: []api.Section{{Name: "s", Length: 1, Limit: 65535, Grade: -40, Station: 0}}})
	for _, l := range validLayouts() {
		expectDecode(t, sealed(itemsModel(l)...), l)
	}
}

func TestDecodeOfEncode(t *testing.T) {
	expectReturned := func(l api.Layout) {
		t.Helper()
		encoding, errno := Encode(l)
		if errno != api.OK {
			t.Errorf("Encode(%s): error %d", short(l), errno)
		}
		expectDecode(t, encoding, l)
	}
	for _, l := range validLayouts() {
		expectReturned(l)
	}
	for _, length := range []int{1, 127, 128, 255, 256, 257, 399, 400} {
		expectReturned(with(forkLayout(), func(l *api.Layout) { l.Sections[1].Length = length }))
	}
	for limit := api.MinSpeed; limit <= api.MaxSpeed; limit += 7 {
		expectReturned(with(forkLayout(), func(l *api.Layout) { l.Sections[1].Limit = limit }))
	}
	for grade := -api.MaxGrade; grade <= api.MaxGrade; grade++ {
		expectReturned(with(forkLayout(), func(l *api.Layout) { l.Sections[1].Grade = grade }))
	}
}

func TestDecodeOfProperBeginnings(t *testing.T) {
	expectDecodeError(t, "", 0, api.ErrShort)
	for _, l := range []api.Layout{exampleLayout(), forkLayout(), fullLayout()} {
		items := itemsModel(l)
		expectShort(t, append(items, sumItem(strings.Join(items, ""))))
	}
	// Items are complete or not whatever they contain, and the sum counts only when it is complete.
	expectShort(t, []string{"RPL1", "\x01", "\x01", "\x01", "\x01", "\x00", "\xFF" + strings.Repeat("\xFF", 255), "\x02\x02\x02", "\xFF\xFF", "\x00\x00\x00", "\xFF", "\xFF", "\xFF", "\xFF", "\xFF", "\xFF", "\x00\x00\x00\x00"})
}

func TestDecodeOfAnotherFirstItem(t *testing.T) {
	encoding := sealed(forkItems()...)
	for _, first := range []string{"RPL0", "RPL2", "rpl1", "\x00\x00\x00\x00", "RPL\xB1", "1LPR", " RPL", "\x04RPL", "RRPL"} {
		expectDecodeError(t, first+encoding[4:], 0, api.ErrForm)
		expectDecodeError(t, first, 0, api.ErrForm)
		// More is wrong behind it.
		for size := range len(encoding) - 4 {
			expectDecodeError(t, first+encoding[4:4+size], 0, api.ErrForm)
		}
		expectDecodeError(t, sealed(first, encoding[4:len(encoding)-4]), 0, api.ErrForm)
		expectDecodeError(t, first+encoding[4:]+"x", 0, api.ErrForm)
		expectDecodeError(t, first+"\xFF\xFF\xFF\xFF\xFF", 0, api.ErrForm)
		expectDecodeError(t, first+strings.Repeat("\x00", 1000), 0, api.ErrForm)
		// It is not complete.
		for size := range 4 {
			expectDecodeError(t, first[:size], 0, api.ErrShort)
		}
	}
}

func TestDecodeOfAWrongSum(t *testing.T) {
	for _, l := range []api.Layout{exampleLayout(), forkLayout(), fullLayout()} {
		before := strings.Join(itemsModel(l), "")
		sum := sumItem(before)
		for i := range sum {
			for difference := 1; difference < 256; difference++ {
				wrong := []byte(sum)
				wrong[i] ^= byte(difference)
				expectDecodeError(t, before+string(wrong), len(before), api.ErrSum)
				expectDecodeError(t, before+string(wrong)+"x", len(before), api.ErrSum)
			}
		}
		reversed := string([]byte{sum[3], sum[2], sum[1], sum[0]})
		expectDecodeError(t, before+reversed, len(before), api.ErrSum)
		expectDecodeError(t, before+"\x00\x00\x00\x00", len(before), api.ErrSum)
		expectDecodeError(t, before+"\x00\x00\x00\x00"+sum, len(before), api.ErrSum)
		// The sum of a part, or of all with what follows, is not the sum of the bytes before it.
		expectDecodeError(t, before+sumItem(before[4:]), len(before), api.ErrSum)
		expectDecodeError(t, before+sumItem(before+sum), len(before), api.ErrSum)
		expectDecodeError(t, sealed(before+"x"), len(before), api.ErrSum)
	}
	// Errors of the layout come later.
	for _, f := range flawedLayouts() {
		before := strings.Join(itemsModel(f.layout), "")
		expectDecodeError(t, before+"RPL1", len(before), api.ErrSum)
		expectDecodeError(t, before+"RPL1RPL1", len(before), api.ErrSum)
	}
}

func TestDecodeOfBytesThatFollow(t *testing.T) {
	for _, l := range []api.Layout{exampleLayout(), forkLayout(), fullLayout()} {
		encoding := sealed(itemsModel(l)...)
		for _, rest := range []string{"\x00", "x", "\n", sumItem(encoding), encoding, strings.Repeat("\xFF", 100000)} {
			expectDecodeError(t, encoding+rest, len(encoding), api.ErrForm)
		}
	}
	for _, f := range flawedLayouts() {
		encoding := sealed(itemsModel(f.layout)...)
		expectDecodeError(t, encoding+"\x00", len(encoding), api.ErrForm)
	}
}

func TestDecodeOfLayoutsThatAreNotValid(t *testing.T) {
	for _, f := range flawedLayouts() {
		items := itemsModel(f.layout)
		expectDecodeError(t, sealed(items...), 0, f.errno)
		expectShort(t, append(items, sumItem(strings.Join(items, ""))))
	}
}

// Bytes beyond the bounds of what they stand for.
func TestDecodeOfEveryByteWithARightSum(t *testing.T) {
	expectResult := func(body string, l api.Layout) {
		t.Helper()
		if errno := layout.Check(l); errno != api.OK {
			expectDecodeError(t, sealed(body), 0, errno)
			return
		}
		expectDecode(t, sealed(body), l)
	}
	for value := range 256 {
		b := string([]byte{byte(value)})
		changedSection := func(body string, change func(s *api.Section)) {
			expectResult(body, with(exampleLayout(), func(l *api.Layout) { change(&l.Sections[0]) }))
		}
		changedSection(exampleBody[:9]+b+exampleBody[10:], func(s *api.Section) { s.Name = b })
		changedSection(exampleBody[:10]+b+exampleBody[11:], func(s *api.Section) { s.Length = value })
		changedSection(exampleBody[:11]+b+exampleBody[12:], func(s *api.Section) { s.Length = 2 + 256*value })
		changedSection(exampleBody[:12]+b+exampleBody[13:], func(s *api.Section) { s.Limit = 768 + value })
		changedSection(exampleBody[:13]+b+exampleBody[14:], func(s *api.Section) { s.Limit = 232 + 256*value })
		changedSection(exampleBody[:14]+b+exampleBody[15:], func(s *api.Section) { s.Limit = 1000 + 65536*value })
		changedSection(exampleBody[:15]+b+exampleBody[16:], func(s *api.Section) { s.Grade = value - 40 })
		changedSection(exampleBody[:16]+b+exampleBody[17:], func(s *api.Section) { s.Station = value - 1 })
		full := fullLayout()
		full.Links = full.Links[:len(full.Links)-1]
		for place, change := range []func(link *api.Link){
			func(link *api.Link) { link.A, link.AEnd = value>>1, value&1 },
			func(link *api.Link) { link.B, link.BEnd = value>>1, value&1 },
			func(link *api.Link) { link.Point = value - 1 },
			func(link *api.Link) { link.Pos = value },
		} {
			l := with(full, func(l *api.Layout) { change(&l.Links[190]) })
			items := itemsModel(full)
			items[len(items)-4+place] = b
			expectResult(strings.Join(items, ""), l)
		}
	}
}

func TestDecodeOfNumbersOfElements(t *testing.T) {
	expectDecodeError(t, sealed("RPL1\x00\x00\x00\x00"), 0, api.ErrArg)
	expectDecodeError(t, sealed("RPL1\x00\x00\x00\x00")+"\x00", 12, api.ErrForm)
	expectDecodeError(t, "RPL1\x00\x00\x00\x00\x00\x00\x00\x00", 8, api.ErrSum)
	expectDecodeError(t, "RPL1\xFF\xFF\xFF\xFF", 8, api.ErrShort)
	expectDecodeError(t, sealed("RPL1\xFF\xFF\xFF\xFF"+strings.Repeat("\x00", 255+255+255*8+255*4)), 0, api.ErrFull)
	expectDecodeError(t, sealed("RPL1\xFF\xFF\xFF\xFF"+strings.Repeat("\x00", 255+255+255*8+255*4-5)), 8+255+255+255*8+255*4-1, api.ErrShort)
	expectDecodeError(t, sealed("RPL1\x00\x00\x00\xFF"+strings.Repeat("\x00", 255*4)), 0, api.ErrFull)
	// Each number with a byte for the name of each element.
	for place := range 3 {
		for _, count := range []int{1, 100, 254, 255} {
			numbers := []byte{0, 0, 0, 0}
			numbers[place] = byte(count)
			size := count
			if place == 2 {
				size = 8 * count
			}
			body := "RPL1" + string(numbers) + strings.Repeat("\x00", size)
			expectDecodeError(t, body[:len(body)-1], len(body)-1, api.ErrShort)
			expectDecodeError(t, body, len(body), api.ErrShort)
			expectDecodeError(t, body+"\x00\x00\x00\x01", len(body), api.ErrSum)
		}
	}
}

func TestDecodeOfLongNames(t *testing.T) {
	for size := range 256 {
		item := nameItem(strings.Repeat("x", size))
		want := api.ErrName
		if 1 <= size && size <= api.MaxName {
			want = api.OK
		}
		bodies := []string{
			"RPL1\x01\x00\x01\x00" + item + "\x01X\x02\x00\xE8\x03\x00\x28\x00",
			"RPL1\x00\x01\x01\x00" + item + "\x01X\x02\x00\xE8\x03\x00\x28\x00",
			"RPL1\x00\x00\x01\x00" + item + "\x02\x00\xE8\x03\x00\x28\x00",
		}
		for _, body := range bodies {
			if _, position, errno := Decode(sealed(body)); position != 0 || errno != want {
				t.Errorf("Decode with a name of %d bytes: error %d at %d; want %d at 0", size, errno, position, want)
			}
			for present := range len(item) {
				expectDecodeError(t, body[:8+present], 8, api.ErrShort)
			}
		}
	}
}

// If one byte of an encoding is changed, there is an error.
func TestDecodeOfOneChangedByte(t *testing.T) {
	expectErrors := func(encoding string, differences []int) {
		t.Helper()
		for i := range len(encoding) {
			for _, difference := range differences {
				changed := []byte(encoding)
				changed[i] ^= byte(difference)
				if l, position, errno := Decode(string(changed)); errno == api.OK {
					t.Errorf("Decode(%s) = %s, %d, %d; byte %d is changed", short(string(changed)), short(l), position, errno, i)
				}
			}
		}
	}
	var all []int
	for difference := 1; difference < 256; difference++ {
		all = append(all, difference)
	}
	for _, l := range validLayouts()[:7] {
		expectErrors(sealed(itemsModel(l)...), all)
	}
	expectErrors(sealed(itemsModel(fullLayout())...), []int{1, 2, 4, 8, 16, 32, 64, 128, 255})
}

// splitModel divides a string into items as promise 5.2 lists them, with the sum, and returns what is left.
func splitModel(s string) (items []string, rest string) {
	rest = s
	count := func(number int) int {
		if number >= len(items) {
			return 0
		}
		return int(items[number][0])
	}
	complete := true
	take := func(size int) {
		if complete = complete && len(rest) >= size; complete {
			items, rest = append(items, rest[:size]), rest[size:]
		}
	}
	takeName := func() {
		if len(rest) == 0 {
			take(1)
			return
		}
		take(1 + int(rest[0]))
	}
	for _, size := range []int{4, 1, 1, 1, 1} {
		take(size)
	}
	for range count(1) + count(2) {
		takeName()
	}
	for range count(3) {
		takeName()
		for _, size := range []int{2, 3, 1, 1} {
			take(size)
		}
	}
	for range 4 * count(4) {
		take(1)
	}
	take(4)
	return items, rest
}

// numberModel returns the number that an item stands for.
func numberModel(item string) int {
	value := 0
	for i := len(item) - 1; i >= 0; i-- {
		value = value*256 + int(item[i])
	}
	return value
}

// layoutModel returns the layout of the items between the numbers of elements and the sum.
func layoutModel(items []string) api.Layout {
	var l api.Layout
	stations, points, sections := int(items[1][0]), int(items[2][0]), int(items[3][0])
	items = items[5 : len(items)-1]
	for i := range stations + points {
		if name := items[i][1:]; i < stations {
			l.Stations = append(l.Stations, name)
		} else {
			l.Points = append(l.Points, name)
		}
	}
	items = items[stations+points:]
	for i := range sections {
		s := items[5*i : 5*i+5]
		l.Sections = append(l.Sections, api.Section{Name: s[0][1:], Length: numberModel(s[1]), Limit: numberModel(s[2]), Grade: numberModel(s[3]) - 40, Station: numberModel(s[4]) - 1})
	}
	for items = items[5*sections:]; len(items) > 0; items = items[4:] {
		a, b := numberModel(items[0]), numberModel(items[1])
		l.Links = append(l.Links, api.Link{A: a >> 1, AEnd: a & 1, B: b >> 1, BEnd: b & 1, Point: numberModel(items[2]) - 1, Pos: numberModel(items[3])})
	}
	return l
}

// decodeModel decodes an encoding as promise 5.3 says it.
func decodeModel(s string) (api.Layout, int, api.Errno) {
	items, rest := splitModel(s)
	end := len(s) - len(rest)
	if len(items) > 0 && items[0] != "RPL1" {
		return api.Layout{}, 0, api.ErrForm
	}
	if len(items) < 5 || len(items) != 6+int(items[1][0])+int(items[2][0])+5*int(items[3][0])+4*int(items[4][0]) {
		return api.Layout{}, end, api.ErrShort
	}
	if items[len(items)-1] != sumItem(s[:end-4]) {
		return api.Layout{}, end - 4, api.ErrSum
	}
	if rest != "" {
		return api.Layout{}, end, api.ErrForm
	}
	l := layoutModel(items)
	if errno := layout.Check(l); errno != api.OK {
		return api.Layout{}, 0, errno
	}
	return l, 0, api.OK
}

// damaged returns a string that differs from an encoding by a few bytes, and that has the right sum as a rule.
func damaged(random *rand.Rand, encoding string) string {
	bytes := []byte(encoding)
	for range 1 + random.Intn(2) {
		i := random.Intn(len(bytes))
		bytes[i] = byte(random.Intn(1 + random.Intn(256)))
		if random.Intn(2) == 0 {
			bytes[i] = bytes[max(0, i-random.Intn(20))]
		}
	}
	switch random.Intn(8) {
	case 0:
		return string(bytes[:random.Intn(len(bytes))])
	case 1:
		return string(bytes) + "x"
	}
	items, rest := splitModel(string(bytes))
	before := strings.Join(items[:len(items)-1], "")
	if random.Intn(8) == 0 {
		return sealed(before) + rest
	}
	return sealed(before)
}

func TestDecodeAgreesWithModel(t *testing.T) {
	random := rand.New(rand.NewSource(5))
	layouts := validLayouts()
	counts := map[api.Errno]int{}
	for range 60000 {
		s := damaged(random, sealed(itemsModel(layouts[random.Intn(7)])...))
		want, position, errno := decodeModel(s)
		counts[errno]++
		if errno != api.OK {
			expectDecodeError(t, s, position, errno)
			continue
		}
		expectDecode(t, s, want)
		// A layout has one encoding only.
		expectEncode(t, want, s, api.OK)
	}
	for _, errno := range []api.Errno{api.OK, api.ErrShort, api.ErrForm, api.ErrSum, api.ErrName, api.ErrDuplicate, api.ErrRange, api.ErrArg, api.ErrLink} {
		if counts[errno] < 50 {
			t.Errorf("only %d of the strings have the result %d", counts[errno], errno)
		}
	}
}

func TestDecodeOfAnyBytes(t *testing.T) {
	random := rand.New(rand.NewSource(6))
	for range 20000 {
		bytes := make([]byte, random.Intn(200))
		random.Read(bytes)
		s := string(bytes)
		if random.Intn(2) == 0 {
			s = "RPL1" + s
		}
		_, position, errno := decodeModel(s)
		expectDecodeError(t, s, position, errno)
	}
}
