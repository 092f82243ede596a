package layout

import (
	"strconv"
	"strings"
	"testing"

	"railplan/api"
)

// short keeps long texts out of the messages.
func short(src string) string {
	if len(src) > 600 {
		return strconv.Quote(src[:300]) + " .. " + strconv.Quote(src[len(src)-200:])
	}
	return strconv.Quote(src)
}

func expectParse(t *testing.T, src string, want api.Layout) {
	t.Helper()
	got, number, errno := Parse(src)
	if errno != api.OK || number != 0 || !equalLayouts(got, want) {
		t.Errorf("Parse(%s) = %s, %d, %d; want %s, 0, OK", short(src), describe(got), number, errno, describe(want))
	}
}

func expectParseError(t *testing.T, src string, wantNumber int, want api.Errno) {
	t.Helper()
	got, number, errno := Parse(src)
	if errno != want || number != wantNumber || !equalLayouts(got, api.Layout{}) {
		t.Errorf("Parse(%s) = %s, %d, %d; want an empty layout, %d, %d", short(src), describe(got), number, errno, wantNumber, want)
	}
}

func TestParseTheExample(t *testing.T) {
	expectParse(t, exampleText, exampleLayout())
}

func TestParseOrdinaryTexts(t *testing.T) {
	expectParse(t, "section T 40 20000 0", api.Layout{Sections: []api.Section{section("T")}})
	expectParse(t, "section T 400 100000 -40\n", api.Layout{Sections: []api.Section{{Name: "T", Length: 400, Limit: 100000, Grade: -40, Station: -1}}})
	expectParse(t, "section T 1 1000 40", api.Layout{Sections: []api.Section{{Name: "T", Length: 1, Limit: 1000, Grade: 40, Station: -1}}})
	expectParse(t, "section T 40 20000 0\nlink T A T B\n", api.Layout{Sections: []api.Section{section("T")}, Links: []api.Link{plainLink(0, 0, 0, 1)}})
	expectParse(t, "section T 40 20000 0\nlink T B T A\n", api.Layout{Sections: []api.Section{section("T")}, Links: []api.Link{plainLink(0, 1, 0, 0)}})
	expectParse(t, "# a layout\n\n  station\tNorth # the terminus\n\nsection T 40 20000 0 at North# no point\n", api.Layout{
		Stations: []string{"North"},
		Sections: []api.Section{{Name: "T", Length: 40, Limit: 20000, Station: 0}},
	})
}

// Lines of different kinds may stand in any order, as long as names come before their uses.
func TestParseLinesInAnyOrder(t *testing.T) {
	src := `section U 10 1000 -1
section V 20 2000 2
link V B U A
station s
point p
section W 30 3000 -3 at s
station r
point q
link W A U B q 1
section X 40 4000 4 at r
section Y 50 5000 5 at s
link U B X A q 0
link Y B W B
`
	expectParse(t, src, api.Layout{
		Stations: []string{"s", "r"},
		Points:   []string{"p", "q"},
		Sections: []api.Section{
			{Name: "U", Length: 10, Limit: 1000, Grade: -1, Station: -1},
			{Name: "V", Length: 20, Limit: 2000, Grade: 2, Station: -1},
			{Name: "W", Length: 30, Limit: 3000, Grade: -3, Station: 0},
			{Name: "X", Length: 40, Limit: 4000, Grade: 4, Station: 1},
			{Name: "Y", Length: 50, Limit: 5000, Grade: 5, Station: 0},
		},
		Links: []api.Link{
			plainLink(1, api.EndB, 0, api.EndA),
			switchedLink(2, api.EndA, 0, api.EndB, 1, 1),
			switchedLink(0, api.EndB, 3, api.EndA, 1, 0),
			plainLink(4, api.EndB, 2, api.EndB),
		},
	})
}

// Names that are also words of the language are names where a name stands.
func TestParseNamesThatAreKeywords(t *testing.T) {
	src := `station at
station station
point link
point A
section section 40 20000 0 at station
section at 40 20000 0 at at
section A 40 20000 0
section B 40 20000 0
link section A A A A 1
link B A section A A 0
link B B at B
`
	expectParse(t, src, api.Layout{
		Stations: []string{"at", "station"},
		Points:   []string{"link", "A"},
		Sections: []api.Section{
			{Name: "section", Length: 40, Limit: 20000, Station: 1},
			{Name: "at", Length: 40, Limit: 20000, Station: 0},
			{Name: "A", Length: 40, Limit: 20000, Station: -1},
			{Name: "B", Length: 40, Limit: 20000, Station: -1},
		},
		Links: []api.Link{
			switchedLink(0, 0, 2, 0, 1, 1),
			switchedLink(3, 0, 0, 0, 1, 0),
			plainLink(3, 1, 1, 1),
		},
	})
}

// head declares the names that the lines of the tests refer to; it has five lines.
const head = "station s\npoint p\nsection T 40 20000 0\nsection U 40 20000 0\nsection V 40 20000 0\n"

func headLayout() api.Layout {
	return api.Layout{Stations: []string{"s"}, Points: []string{"p"}, Sections: []api.Section{section("T"), section("U"), section("V")}}
}

// expectForm parses a sixth line, which has another error than ErrForm, or none.
func expectForm(t *testing.T, line string, want bool) {
	t.Helper()
	got, number, errno := Parse(head + line + "\nsection Z 40 20000 0\n")
	if (errno != api.ErrForm) != want {
		t.Errorf("Parse of the line %q: error %d, form %t; want %t", line, errno, errno != api.ErrForm, want)
	}
	if errno == api.ErrForm && (number != 6 || !equalLayouts(got, api.Layout{})) {
		t.Errorf("Parse of the line %q = %s, %d; want an empty layout, 6", line, describe(got), number)
	}
}

func TestParseNumberOfWords(t *testing.T) {
	for _, c := range []struct {
		words   string
		permits []int
	}{
		{"station r r r r r r r r", []int{2}},
		{"point q q q q q q q q", []int{2}},
		{"section W 40 20000 0 at s at s at", []int{5, 7}},
		{"section W 40 20000 0 s s s", []int{5}},
		{"section W 40 20000 0 0 s s", []int{5}},
		{"link T B U A p 0 p 0 p", []int{5, 7}},
		{"link T B U A 0 p p", []int{5}},
	} {
		words := strings.Fields(c.words)
		for count := 1; count <= len(words); count++ {
			permitted := false
			for _, number := range c.permits {
				permitted = permitted || number == count
			}
			expectForm(t, strings.Join(words[:count], " "), permitted)
		}
	}
	most := strings.Repeat(" x", api.MaxWords-1)
	for _, keyword := range []string{"station", "point", "section", "link"} {
		expectForm(t, keyword+most, false)
		expectParseError(t, head+keyword+most+" x", 6, api.ErrFull)
	}
}

func TestParseKeywords(t *testing.T) {
	for _, line := range []string{"Station r", "STATION r", "stations r", "statio r", "station: r", "r station", "r", "at s", "A", "0", "Point q", "points q", "switch q", "Section W 40 20000 0", "sections W 40 20000 0", "track W 40 20000 0", "W 40 20000 0", "Link T B U A", "links T B U A", "T B U A", "route T U", ";", "//", "~"} {
		expectForm(t, line, false)
	}
}

func TestParseSectionForm(t *testing.T) {
	for _, line := range []string{"section W 40 20000 0 At s", "section W 40 20000 0 in s", "section W 40 20000 0 s at", "section W 40 20000 0 @ s", "section W 40 20000 at s 0", "section 40 20000 0 W", "section W at s 40 20000 0", "section W 40 20000 0 1 s"} {
		expectForm(t, line, false)
	}
	for _, number := range []string{"x", "-", "+1", "01", "-0", "1.0", "1e3", "0x10", "1_000", "40..40", "--1", "1099511627777", "-1099511627777", "18446744073709551656", "T", "s"} {
		expectForm(t, "section W "+number+" 20000 0", false)
		expectForm(t, "section W 40 "+number+" 0", false)
		expectForm(t, "section W 40 20000 "+number, false)
		expectForm(t, "section W "+number+" 20000 0 at s", false)
		expectForm(t, "section W 40 "+number+" 0 at s", false)
		expectForm(t, "section W 40 20000 "+number+" at s", false)
	}
	// Numbers beyond the bounds of a section have the right form.
	for _, number := range []string{"-41", "1000000", "1099511627776", "-1099511627776"} {
		expectParseError(t, head+"section W "+number+" 20000 0", 0, api.ErrRange)
		expectParseError(t, head+"section W 40 "+number+" 0", 0, api.ErrRange)
		expectParseError(t, head+"section W 40 20000 "+number, 0, api.ErrRange)
	}
}

func TestParseLinkForm(t *testing.T) {
	for _, word := range []string{"a", "b", "C", "AB", "AA", "0", "1", "U", "p", "-", "EndA", "Up", "\"A\""} {
		expectForm(t, "link T "+word+" U A", false)
		expectForm(t, "link T B U "+word, false)
		expectForm(t, "link T "+word+" U A p 0", false)
		expectForm(t, "link T B U "+word+" p 0", false)
	}
	for _, word := range []string{"2", "-1", "-0", "00", "01", "10", "+0", "A", "p", "x", "0.0"} {
		expectForm(t, "link T B U A p "+word, false)
	}
	for _, line := range []string{"link T U A B", "link B T A U", "link T B U A 0 p", "link p 0 T B U A", "link T B p 0 U A"} {
		expectForm(t, line, false)
	}
	ends := []string{"A", "B"}
	for a, aWord := range ends {
		for b, bWord := range ends {
			l := headLayout()
			l.Links = []api.Link{plainLink(0, a, 1, b)}
			expectParse(t, head+"link T "+aWord+" U "+bWord, l)
			for pos := range 2 {
				l.Links = []api.Link{switchedLink(2, a, 1, b, 0, pos)}
				expectParse(t, head+"link V "+aWord+" U "+bWord+" p "+strconv.Itoa(pos), l)
			}
		}
	}
}

// The name of an element may be any word in the form, and is an error of the whole.
func TestParseNamesThatAreNoNames(t *testing.T) {
	for _, name := range []string{"1", "_a", "a-b", "abcdefghijklm", "!", "40", "-", strings.Repeat("x", 1000)} {
		expectParseError(t, head+"station "+name, 0, api.ErrName)
		expectParseError(t, head+"point "+name, 0, api.ErrName)
		expectParseError(t, head+"section "+name+" 40 20000 0", 0, api.ErrName)
		// A reference to such a name is permitted too, if it is declared.
		expectParseError(t, head+"station "+name+"\nsection W 40 20000 0 at "+name, 0, api.ErrName)
		expectParseError(t, head+"point "+name+"\nlink T B U A "+name+" 0", 0, api.ErrName)
		expectParseError(t, head+"section "+name+" 40 20000 0\nlink "+name+" B "+name+" A", 0, api.ErrName)
		expectParseError(t, head+"section W 40 20000 0 at "+name, 6, api.ErrName)
		expectParseError(t, head+"link T B U A "+name+" 0", 6, api.ErrName)
	}
}

func TestParseNamesThatAreNotDeclared(t *testing.T) {
	for _, name := range []string{"x", "S", "t", "Ts", "sT", "pp"} {
		expectParseError(t, head+"section W 40 20000 0 at "+name, 6, api.ErrName)
		expectParseError(t, head+"link "+name+" B U A", 6, api.ErrName)
		expectParseError(t, head+"link T B "+name+" A", 6, api.ErrName)
		expectParseError(t, head+"link "+name+" B "+name+" A", 6, api.ErrName)
		expectParseError(t, head+"link T B U A "+name+" 0", 6, api.ErrName)
		expectParseError(t, head+"link "+name+" B U A p 0", 6, api.ErrName)
		expectParseError(t, head+"link T B "+name+" A p 1", 6, api.ErrName)
	}
	// A name that a line of another kind declares.
	for _, name := range []string{"p", "T"} {
		expectParseError(t, head+"section W 40 20000 0 at "+name, 6, api.ErrName)
	}
	for _, name := range []string{"s", "T"} {
		expectParseError(t, head+"link T B U A "+name+" 0", 6, api.ErrName)
	}
	for _, name := range []string{"s", "p"} {
		expectParseError(t, head+"link "+name+" B U A", 6, api.ErrName)
		expectParseError(t, head+"link T B "+name+" A", 6, api.ErrName)
	}
	// A name that a later line, or the same one, declares.
	expectParseError(t, head+"section W 40 20000 0 at r\nstation r\n", 6, api.ErrName)
	expectParseError(t, head+"section W 40 20000 0 at W\n", 6, api.ErrName)
	expectParseError(t, head+"link T B W A\nsection W 40 20000 0\n", 6, api.ErrName)
	expectParseError(t, head+"link T B U A q 0\npoint q\n", 6, api.ErrName)
	// Nothing is declared before the first line.
	expectParseError(t, "section T 40 20000 0 at s\n", 1, api.ErrName)
	expectParseError(t, "link T A T B\n", 1, api.ErrName)
}

func TestParseNamesThatAreDeclaredTwice(t *testing.T) {
	expectParseError(t, head+"station s", 0, api.ErrDuplicate)
	expectParseError(t, head+"point p", 0, api.ErrDuplicate)
	expectParseError(t, head+"section U 40 20000 0", 0, api.ErrDuplicate)
	expectParseError(t, head+"section T 40 20000 0 at s\nlink T B U A\nlink T A V A\n", 0, api.ErrDuplicate)
	expectParseError(t, head+"station s\nsection W 40 20000 0 at s\n", 0, api.ErrDuplicate)
	expectParseError(t, head+"point p\nlink T B U A p 0\n", 0, api.ErrDuplicate)
	// In lists of different kinds the same name may stand, and a reference means the element of its kind.
	l := headLayout()
	l.Stations = append(l.Stations, "T", "p")
	l.Points = append(l.Points, "s", "U")
	l.Sections = append(l.Sections, section("p"), section("s"))
	l.Sections[3].Station, l.Sections[4].Station = 1, 2
	l.Links = []api.Link{switchedLink(3, 1, 4, 0, 1, 1), switchedLink(0, 1, 1, 0, 2, 0)}
	expectParse(t, head+"station T\nstation p\npoint s\npoint U\nsection p 40 20000 0 at T\nsection s 40 20000 0 at p\nlink p B s A s 1\nlink T B U A U 0\n", l)
}

func TestParseErrorsOfTheWords(t *testing.T) {
	expectParseError(t, strings.Repeat("\n", api.MaxText+1), 0, api.ErrFull)
	expectParseError(t, "\n\xff\n", 2, api.ErrForm)
	expectParseError(t, head+"\r\n", 6, api.ErrForm)
	expectParseError(t, head+strings.Repeat("x ", api.MaxWords+1), 6, api.ErrFull)
	// They come before the errors of earlier lines.
	expectParseError(t, "nonsense\nlink T A T B\n"+head+"\x00", 8, api.ErrForm)
	expectParseError(t, "link T A T B\n"+head+strings.Repeat("x ", api.MaxWords+1), 7, api.ErrFull)
	expectParseError(t, "nonsense\n"+strings.Repeat("\n", api.MaxText), 0, api.ErrFull)
	expectParse(t, head+strings.Repeat("#", api.MaxText-len(head)), headLayout())
}

func TestParseErrorsOfCheck(t *testing.T) {
	for _, src := range []string{"", "\n\n", "# nothing\n", "station s\n", "point p\nstation s\n"} {
		expectParseError(t, src, 0, api.ErrArg)
	}
	var many strings.Builder
	for _, name := range names("x", api.MaxStations+1) {
		many.WriteString("station " + name + "\n")
	}
	expectParseError(t, many.String(), 0, api.ErrFull)
	expectParseError(t, head+strings.Repeat("section T 40 20000 0\n", api.MaxSections), 0, api.ErrFull)
	expectParseError(t, head+strings.Repeat("point p\n", api.MaxPoints), 0, api.ErrFull)
	expectParseError(t, head+strings.Repeat("link T B U A\n", api.MaxLinks+1), 0, api.ErrFull)
	expectParseError(t, head+"section W 401 20000 0\n", 0, api.ErrRange)
	expectParseError(t, head+"section W 40 999 0\n", 0, api.ErrRange)
	expectParseError(t, head+"section W 40 20000 -41 at s\n", 0, api.ErrRange)
	expectParseError(t, head+"link T B T B\n", 0, api.ErrArg)
	expectParseError(t, head+"link T B U A\nlink U A T B\n", 0, api.ErrDuplicate)
	expectParseError(t, head+"link T B U A\nlink T B V A\n", 0, api.ErrLink)
	expectParseError(t, head+"link T B U A p 1\nlink T B V A p 1\n", 0, api.ErrLink)
	expectParseError(t, "station 1\nlines\n", 2, api.ErrForm)
	expectParseError(t, "station 1\nsection T 0 0 0 at s\n", 2, api.ErrName)
}

func TestParseReturnsTheFirstError(t *testing.T) {
	expectParseError(t, head+"station\nlink T B W A\n", 6, api.ErrForm)
	expectParseError(t, head+"link T B W A\nstation\n", 6, api.ErrName)
	expectParseError(t, head+"\n# c\n point \n point\n", 8, api.ErrForm)
	expectParseError(t, head+"\n\t# c\n\n section W 40 20000 0 at x\n", 9, api.ErrName)
	expectParseError(t, "x\n"+head, 1, api.ErrForm)
	// Of the errors of one line, the form counts first.
	expectParseError(t, head+"section W 40 20000 x at x\n", 6, api.ErrForm)
	expectParseError(t, head+"link x B U C\n", 6, api.ErrForm)
	expectParseError(t, head+"link x C U B\n", 6, api.ErrForm)
	expectParseError(t, head+"link T B x A p 2\n", 6, api.ErrForm)
	expectParseError(t, head+"link T B U A x 2\n", 6, api.ErrForm)
	expectParseError(t, head+"link x B U A x\n", 6, api.ErrForm)
	expectParseError(t, head+"section W 40 20000 0 at x x\n", 6, api.ErrForm)
}

func expectFormat(t *testing.T, l api.Layout, want string) {
	t.Helper()
	if got := Format(l); got != want {
		t.Errorf("Format(%s) = %s; want %s", describe(l), short(got), short(want))
	}
}

func TestFormat(t *testing.T) {
	expectFormat(t, exampleLayout(), exampleText)
	expectFormat(t, api.Layout{Sections: sections(1)}, "section T0 40 20000 0\n")
	expectFormat(t, headLayout(), head)
	expectFormat(t, api.Layout{
		Stations: []string{"b", "a"},
		Points:   []string{"q", "p"},
		Sections: []api.Section{
			{Name: "V", Length: 1, Limit: 1000, Grade: -40, Station: 1},
			{Name: "U", Length: 400, Limit: 100000, Grade: 40, Station: -1},
			{Name: "T", Length: 7, Limit: 1001, Grade: 0, Station: 0},
		},
		Links: []api.Link{
			plainLink(2, api.EndB, 1, api.EndB),
			switchedLink(0, api.EndB, 2, api.EndA, 1, 1),
			switchedLink(1, api.EndA, 2, api.EndA, 1, 0),
		},
	}, `station b
station a
point q
point p
section V 1 1000 -40 at a
section U 400 100000 40
section T 7 1001 0 at b
link T B U B
link V B T A p 1
link U A T A p 0
`)
	expectFormat(t, linkLayout(plainLink(3, 0, 3, 1)), "point P0\npoint P1\nsection T0 40 20000 0\nsection T1 40 20000 0\nsection T2 40 20000 0\nsection T3 40 20000 0\nlink T3 A T3 B\n")
}

func TestFormatOfLayoutsThatAreNotValid(t *testing.T) {
	expectFormat(t, api.Layout{}, "")
	for _, l := range invalidLayouts() {
		expectFormat(t, l, "")
	}
	for _, f := range faultsInOrder() {
		l := lineLayout(8)
		f.apply(&l)
		expectFormat(t, l, "")
	}
}

func expectParseOfFormat(t *testing.T, l api.Layout) {
	t.Helper()
	text := Format(l)
	if Check(l) != api.OK {
		expectFormat(t, l, "")
		return
	}
	expectParse(t, text, l)
}

func TestParseOfFormat(t *testing.T) {
	for _, l := range []api.Layout{exampleLayout(), headLayout(), lineLayout(50), fullLayout()} {
		expectParseOfFormat(t, l)
	}
	visitRandomLayouts(10000, func(l api.Layout) { expectParseOfFormat(t, l) })
}

// Even the longest layout has a text that Parse reads.
func TestParseOfTheLongestText(t *testing.T) {
	l := fullLayout()
	long := func(i int) string {
		name := "abcdefghij" + strconv.Itoa(i)
		return name[len(name)-api.MaxName:]
	}
	for i := range l.Stations {
		l.Stations[i] = long(i + 10)
	}
	for i := range l.Points {
		l.Points[i] = long(i + 10)
	}
	for i := range l.Sections {
		l.Sections[i] = api.Section{Name: "b" + long(i + 100)[1:], Length: 400, Limit: 100000, Grade: -40, Station: 23}
	}
	if text := Format(l); len(text) > api.MaxText || len(text) < 10000 {
		t.Errorf("the longest text has %d bytes", len(text))
	}
	expectParseOfFormat(t, l)
}

// What Parse reads, Format writes in its own order, and again in the same way.
func TestFormatOfParse(t *testing.T) {
	src := "section  T 40 20000 0 # first\nstation s\nsection U 40 20000 0 at s\npoint p\nlink U A T B p 1\n"
	l, _, errno := Parse(src)
	if errno != api.OK {
		t.Fatalf("Parse(%q): error %d", src, errno)
	}
	expectFormat(t, l, "station s\npoint p\nsection T 40 20000 0\nsection U 40 20000 0 at s\nlink U A T B p 1\n")
}
