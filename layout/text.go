package layout

import (
	"strconv"

	"railplan/api"
	"railplan/words"
)

// Parse returns the layout whose elements are declared by the lines of src, in their order. Together with an error it returns the number of the line that has it, or 0 if it is an error of the whole.
func Parse(src string) (api.Layout, int, api.Errno) {
	lines, number, errno := words.Lines(src)
	if errno != api.OK {
		return api.Layout{}, number, errno
	}
	d := newDraft()
	for _, line := range lines {
		if errno := d.addLine(textsOf(line)); errno != api.OK {
			return api.Layout{}, line[0].Line, errno
		}
	}
	if errno := Check(d.layout); errno != api.OK {
		return api.Layout{}, 0, errno
	}
	return d.layout, 0, api.OK
}

func textsOf(line []api.Word) []string {
	var texts []string
	for _, word := range line {
		texts = append(texts, word.Text)
	}
	return texts
}

// draft is the layout that the lines so far declare, with the numbers of the elements by their names.
type draft struct {
	layout   api.Layout
	stations map[string]int
	points   map[string]int
	sections map[string]int
}

func newDraft() *draft {
	return &draft{stations: map[string]int{}, points: map[string]int{}, sections: map[string]int{}}
}

func (d *draft) addLine(line []string) api.Errno {
	operands := line[1:]
	switch line[0] {
	case "station":
		return appendName(&d.layout.Stations, d.stations, operands)
	case "point":
		return appendName(&d.layout.Points, d.points, operands)
	case "section":
		return d.addSection(operands)
	case "link":
		return d.addLink(operands)
	}
	return api.ErrForm
}

// declare gives a name its number, unless an earlier line has declared it.
func declare(numbers map[string]int, name string, number int) {
	if _, declared := numbers[name]; !declared {
		numbers[name] = number
	}
}

// appendName reads NAME, and adds it to the stations or to the points.
func appendName(list *[]string, numbers map[string]int, operands []string) api.Errno {
	if len(operands) != 1 {
		return api.ErrForm
	}
	declare(numbers, operands[0], len(*list))
	*list = append(*list, operands[0])
	return api.OK
}

// addSection reads NAME LENGTH LIMIT GRADE, optionally followed by at STATION.
func (d *draft) addSection(operands []string) api.Errno {
	located := len(operands) == 6 && operands[4] == "at"
	if len(operands) != 4 && !located {
		return api.ErrForm
	}
	length, lengthOK := words.Number(operands[1])
	limit, limitOK := words.Number(operands[2])
	grade, gradeOK := words.Number(operands[3])
	if !lengthOK || !limitOK || !gradeOK {
		return api.ErrForm
	}
	station := none
	if located {
		number, declared := d.stations[operands[5]]
		if !declared {
			return api.ErrName
		}
		station = number
	}
	name := operands[0]
	declare(d.sections, name, len(d.layout.Sections))
	d.layout.Sections = append(d.layout.Sections, api.Section{Name: name, Length: length, Limit: limit, Grade: grade, Station: station})
	return api.OK
}

// addLink reads SECTION END SECTION END, optionally followed by POINT POS.
func (d *draft) addLink(operands []string) api.Errno {
	switched := len(operands) == 6
	if len(operands) != 4 && !switched {
		return api.ErrForm
	}
	aEnd, aEndOK := endOf(operands[1])
	bEnd, bEndOK := endOf(operands[3])
	pos, posOK := 0, true
	if switched {
		pos, posOK = positionOf(operands[5])
	}
	if !aEndOK || !bEndOK || !posOK {
		return api.ErrForm
	}
	a, aDeclared := d.sections[operands[0]]
	b, bDeclared := d.sections[operands[2]]
	point, pointDeclared := none, true
	if switched {
		point, pointDeclared = d.points[operands[4]]
	}
	if !aDeclared || !bDeclared || !pointDeclared {
		return api.ErrName
	}
	d.layout.Links = append(d.layout.Links, api.Link{A: a, AEnd: aEnd, B: b, BEnd: bEnd, Point: point, Pos: pos})
	return api.OK
}

// endOf returns the end that a word denotes.
func endOf(word string) (int, bool) {
	switch word {
	case "A":
		return api.EndA, true
	case "B":
		return api.EndB, true
	}
	return 0, false
}

// positionOf returns the position of a point that a word denotes.
func positionOf(word string) (int, bool) {
	switch word {
	case "0":
		return 0, true
	case "1":
		return 1, true
	}
	return 0, false
}

// Format returns the text of a valid layout: the lines of the stations, the points, the sections and the links, each in order. It returns the empty string if the layout is not valid.
func Format(l api.Layout) string {
	if Check(l) != api.OK {
		return ""
	}
	var lines [][]string
	for _, name := range l.Stations {
		lines = append(lines, []string{"station", name})
	}
	for _, name := range l.Points {
		lines = append(lines, []string{"point", name})
	}
	for _, section := range l.Sections {
		lines = append(lines, sectionLine(l, section))
	}
	for _, link := range l.Links {
		lines = append(lines, linkLine(l, link))
	}
	return words.Join(lines)
}

func sectionLine(l api.Layout, section api.Section) []string {
	line := []string{"section", section.Name, strconv.Itoa(section.Length), strconv.Itoa(section.Limit), strconv.Itoa(section.Grade)}
	if section.Station != none {
		line = append(line, "at", l.Stations[section.Station])
	}
	return line
}

func linkLine(l api.Layout, link api.Link) []string {
	line := []string{"link", l.Sections[link.A].Name, endWord(link.AEnd), l.Sections[link.B].Name, endWord(link.BEnd)}
	if link.Point != none {
		line = append(line, l.Points[link.Point], strconv.Itoa(link.Pos))
	}
	return line
}

func endWord(side int) string {
	if side == api.EndA {
		return "A"
	}
	return "B"
}
