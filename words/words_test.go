package words

import (
	"math"
	"reflect"
	"slices"
	"strconv"
	"strings"
	"testing"
	"unsafe"

	"railplan/api"
)

// allBytes calls a function with every byte, as a string of one byte.
func allBytes(visit func(b byte, s string)) {
	for b := range 256 {
		visit(byte(b), string([]byte{byte(b)}))
	}
}

// texts calls a function with every text of at most length elements of an alphabet.
func texts(alphabet []string, length int, visit func(string)) {
	var extend func(text string, left int)
	extend = func(text string, left int) {
		visit(text)
		if left == 0 {
			return
		}
		for _, element := range alphabet {
			extend(text+element, left-1)
		}
	}
	extend("", length)
}

const (
	letters  = "ABCDEFGHIJKLMNOPQRSTUVWXYZabcdefghijklmnopqrstuvwxyz"
	digits   = "0123456789"
	visibles = "!\"$%&'()*+,-./" + digits + ":;<=>?@ABCDEFGHIJKLMNOPQRSTUVWXYZ[\\]^_`abcdefghijklmnopqrstuvwxyz{|}~"
)

// contains goes byte by byte, because a byte of more than 127 is no character of its own.
func contains(set string, b byte) bool {
	return slices.Contains([]byte(set), b)
}

func TestNameOfOrdinaryNames(t *testing.T) {
	for _, s := range []string{"a", "z", "A", "Z", "Bern", "p1", "T_2", "a_", "a__b", "Z9", "northWest_12", "abcdefghijkl"} {
		if !Name(s) {
			t.Errorf("Name(%q) = false; want true", s)
		}
	}
	for _, s := range []string{"", "_", "1", "1a", "_a", "-a", "a b", " a", "a ", "a-b", "a.b", "a\n", "a\x00", "\x00", "é", "aé", "a\xff", "#", "a#"} {
		if Name(s) {
			t.Errorf("Name(%q) = true; want false", s)
		}
	}
}

func TestNameLength(t *testing.T) {
	for length := range 40 {
		want := 1 <= length && length <= api.MaxName
		for _, later := range []string{"a", "Z", "0", "_"} {
			if length == 0 {
				later = ""
			}
			s := "n"[:min(length, 1)] + strings.Repeat(later, max(length-1, 0))
			if got := Name(s); got != want {
				t.Errorf("Name(%q) = %t; want %t", s, got, want)
			}
		}
	}
	if Name(strings.Repeat("a", 1<<20)) {
		t.Error("Name is true for a very long string")
	}
}

func TestNameAtEveryPosition(t *testing.T) {
	allBytes(func(b byte, s string) {
		if got, want := Name(s), contains(letters, b); got != want {
			t.Errorf("Name(%q) = %t; want %t", s, got, want)
		}
		if got, want := Name(s+"x"), contains(letters, b); got != want {
			t.Errorf("Name(%q) = %t; want %t", s+"x", got, want)
		}
		want := contains(letters+digits+"_", b)
		for before := 1; before < api.MaxName; before++ {
			for after := 0; before+1+after <= api.MaxName; after++ {
				name := strings.Repeat("k", before) + s + strings.Repeat("k", after)
				if got := Name(name); got != want {
					t.Errorf("Name(%q) = %t; want %t", name, got, want)
				}
			}
		}
	})
}

func expectNumber(t *testing.T, s string, want int) {
	t.Helper()
	if got, ok := Number(s); !ok || got != want {
		t.Errorf("Number(%q) = %d, %t; want %d, true", s, got, ok, want)
	}
}

func expectNoNumber(t *testing.T, s string) {
	t.Helper()
	if got, ok := Number(s); ok || got != 0 {
		t.Errorf("Number(%q) = %d, %t; want 0, false", s, got, ok)
	}
}

func TestNumberOfOrdinaryNumbers(t *testing.T) {
	for _, c := range []struct {
		s    string
		want int
	}{
		{"0", 0}, {"1", 1}, {"9", 9}, {"-1", -1}, {"-9", -9}, {"10", 10}, {"-10", -10}, {"100", 100}, {"42", 42}, {"3600", 3600}, {"-86400", -86400},
		{"1234567890", 1234567890}, {"-9876543210", -9876543210}, {"1000000000000", 1000000000000},
	} {
		expectNumber(t, c.s, c.want)
	}
	for n := -3000; n <= 3000; n++ {
		expectNumber(t, strconv.Itoa(n), n)
	}
}

func TestNumberAtTheLimits(t *testing.T) {
	for distance := range 2000 {
		for _, sign := range []int{1, -1} {
			inside, outside := sign*(api.MaxNumber-distance), sign*(api.MaxNumber+1+distance)
			expectNumber(t, strconv.Itoa(inside), inside)
			expectNoNumber(t, strconv.Itoa(outside))
		}
	}
	expectNumber(t, "1099511627776", 1<<40)
	expectNumber(t, "-1099511627776", -1<<40)
	expectNoNumber(t, "1099511627777")
	expectNoNumber(t, "-1099511627777")
}

func TestNumberThatIsTooLong(t *testing.T) {
	for _, n := range []int{math.MaxInt, math.MinInt, math.MaxInt - 1, math.MinInt + 1} {
		expectNoNumber(t, strconv.Itoa(n))
	}
	// Multiples of 2^64 and numbers a little greater would be small numbers if they wrapped around.
	for _, s := range []string{"18446744073709551616", "18446744073709551617", "36893488147419103232", "184467440737095516160", "340282366920938463463374607431768211456"} {
		expectNoNumber(t, s)
		expectNoNumber(t, "-"+s)
	}
	for length := 14; length < 400; length++ {
		for _, digit := range []string{"0", "1", "5", "9"} {
			expectNoNumber(t, "1"+strings.Repeat(digit, length-1))
			expectNoNumber(t, "-9"+strings.Repeat(digit, length-1))
		}
	}
	expectNoNumber(t, strings.Repeat("9", 1<<20))
}

func TestNumberInAnotherForm(t *testing.T) {
	for _, s := range []string{
		"", "-", "--", "--1", "-0", "00", "-00", "01", "-01", "007", "-007", "0000000000000000000000", "+1", "+0", "+", "1-", "1-2", "- 1", " 1", "1 ", "1\n", "\t1",
		"1.0", "1.", ".1", "1e3", "0x10", "0b1", "0o7", "1_000", "1,000", "x", "a1", "1a", "-a", "Inf", "NaN", "\x001", "1\x00", "\xb1", "١", "１", "−1", "–1",
		"99999999999999x", "x99999999999999",
	} {
		expectNoNumber(t, s)
	}
}

func TestNumberAtEveryPosition(t *testing.T) {
	allBytes(func(b byte, s string) {
		digit := int(b) - '0'
		isDigit := contains(digits, b)
		check := func(s string, valid bool, want int) {
			if valid {
				expectNumber(t, s, want)
			} else {
				expectNoNumber(t, s)
			}
		}
		check(s, isDigit, digit)
		check("-"+s, isDigit && digit != 0, -digit)
		check("2"+s, isDigit, 20+digit)
		check("2"+s+"3", isDigit, 203+10*digit)
		switch b {
		case '-':
			check(s+"23", true, -23)
		default:
			check(s+"23", isDigit && digit != 0, 100*digit+23)
		}
	})
}

// numberModel says which texts are numbers by writing each number and comparing.
func numberModel(least, greatest int) map[string]int {
	model := map[string]int{}
	for n := least; n <= greatest; n++ {
		model[strconv.Itoa(n)] = n
	}
	return model
}

func TestNumberOfAllShortTexts(t *testing.T) {
	model := numberModel(-9999, 99999)
	texts(strings.Split("0129-+ .", ""), 5, func(s string) {
		want, ok := model[s]
		if got, gotOK := Number(s); gotOK != ok || got != want {
			t.Errorf("Number(%q) = %d, %t; want %d, %t", s, got, gotOK, want, ok)
		}
	})
}

func expectRange(t *testing.T, s string, wantLo, wantHi int) {
	t.Helper()
	if lo, hi, ok := Range(s); !ok || lo != wantLo || hi != wantHi {
		t.Errorf("Range(%q) = %d, %d, %t; want %d, %d, true", s, lo, hi, ok, wantLo, wantHi)
	}
}

func expectNoRange(t *testing.T, s string) {
	t.Helper()
	if lo, hi, ok := Range(s); ok || lo != 0 || hi != 0 {
		t.Errorf("Range(%q) = %d, %d, %t; want 0, 0, false", s, lo, hi, ok)
	}
}

func TestRangeOfOrdinaryRanges(t *testing.T) {
	expectRange(t, "3..9", 3, 9)
	expectRange(t, "0..0", 0, 0)
	expectRange(t, "7..7", 7, 7)
	expectRange(t, "-7..-7", -7, -7)
	expectRange(t, "-9..-3", -9, -3)
	expectRange(t, "-3..9", -3, 9)
	expectRange(t, "-1..0", -1, 0)
	expectRange(t, "0..3600", 0, 3600)
	expectRange(t, "9..10", 9, 10)
	expectRange(t, "-1099511627776..1099511627776", -1<<40, 1<<40)
	expectRange(t, "1099511627776..1099511627776", 1<<40, 1<<40)
	expectRange(t, "-1099511627776..-1099511627776", -1<<40, -1<<40)
}

func TestRangeOfAllPairs(t *testing.T) {
	for lo := -40; lo <= 40; lo++ {
		for hi := -40; hi <= 40; hi++ {
			s := strconv.Itoa(lo) + ".." + strconv.Itoa(hi)
			if lo <= hi {
				expectRange(t, s, lo, hi)
			} else {
				expectNoRange(t, s)
			}
		}
	}
}

func TestRangeInAnotherForm(t *testing.T) {
	for _, s := range []string{
		"9..3", "10..9", "-3..-9", "1..0", "0..-1", "1099511627776..1099511627775",
		"", ".", "..", "...", "3", "3.", "3..", "..9", ".9", "3.9", "3...9", "3....9", "3..9.", "3..9..", ".3..9", "..3..9", "3..9..12", "3..4..5..6", "3. .9", "3,,9", "3--9", "3-9", "3:9",
		" 3..9", "3..9 ", "3 ..9", "3.. 9", "3..9\n", "a..9", "3..b", "a..b", "3x..9", "3..9x", "-..9", "3..-", "-0..9", "-3..-0", "-0..-0", "03..9", "3..09", "+3..9", "3..+9", "--3..9", "3..--9",
		"1099511627776..1099511627777", "-1099511627777..0", "0..1099511627777", "0..18446744073709551616", "3…9", "3‥9",
	} {
		expectNoRange(t, s)
	}
	allBytes(func(b byte, s string) {
		if b == '.' {
			return
		}
		expectNoRange(t, "3"+s+".9")
		expectNoRange(t, "3."+s+"9")
		expectNoRange(t, "3.."+s+".9")
	})
}

func TestRangeOfAllShortTexts(t *testing.T) {
	numbers := map[string]int{}
	model := numberModel(-999, 9999)
	texts(strings.Split("015-", ""), 4, func(s string) {
		if n, ok := model[s]; ok {
			numbers[s] = n
		}
	})
	ranges := map[string][2]int{}
	for before, lo := range numbers {
		for after, hi := range numbers {
			if lo <= hi {
				ranges[before+".."+after] = [2]int{lo, hi}
			}
		}
	}
	texts(strings.Split("015-.", ""), 7, func(s string) {
		if want, ok := ranges[s]; ok {
			expectRange(t, s, want[0], want[1])
		} else {
			expectNoRange(t, s)
		}
	})
}

// line returns a line of words that are given by their texts and columns.
func line(number int, textsAndCols ...any) []api.Word {
	var words []api.Word
	for i := 0; i < len(textsAndCols); i += 2 {
		words = append(words, api.Word{Text: textsAndCols[i].(string), Line: number, Col: textsAndCols[i+1].(int)})
	}
	return words
}

func equalLines(a, b [][]api.Word) bool {
	return slices.EqualFunc(a, b, slices.Equal[[]api.Word])
}

// short keeps long texts out of the messages.
func short(src string) string {
	if len(src) > 60 {
		return strconv.Quote(src[:30]) + " .. " + strconv.Quote(src[len(src)-20:])
	}
	return strconv.Quote(src)
}

func expectLines(t *testing.T, src string, want ...[]api.Word) {
	t.Helper()
	got, number, errno := Lines(src)
	if errno != api.OK || number != 0 || !equalLines(got, want) {
		t.Errorf("Lines(%s) = %v, %d, %d; want %v, 0, OK", short(src), got, number, errno, want)
	}
}

func expectLinesError(t *testing.T, src string, wantNumber int, want api.Errno) {
	t.Helper()
	got, number, errno := Lines(src)
	if errno != want || number != wantNumber || len(got) != 0 {
		t.Errorf("Lines(%s) = %d lines, %d, %d; want none, %d, %d", short(src), len(got), number, errno, wantNumber, want)
	}
}

func TestLinesExample(t *testing.T) {
	expectLines(t, "a  b # c\n\n d", line(1, "a", 1, "b", 4), line(3, "d", 2))
}

func TestExamplesOfNumbers(t *testing.T) {
	expectNoNumber(t, "-0")
	expectNoNumber(t, "007")
	expectRange(t, "3..9", 3, 9)
}

func TestLinesWithoutWords(t *testing.T) {
	for _, src := range []string{"", "\n", "\n\n\n", " ", "\t", " \t ", "  \n\t\n", "#", "# a", "#\n#", "  # a b\n\t#\n", "##", "# \x00\xff\r", "#a\n"} {
		expectLines(t, src)
	}
}

func TestLinesEnds(t *testing.T) {
	expectLines(t, "a", line(1, "a", 1))
	expectLines(t, "a\n", line(1, "a", 1))
	expectLines(t, "a\n\n", line(1, "a", 1))
	expectLines(t, "a b", line(1, "a", 1, "b", 3))
	expectLines(t, "a b\n", line(1, "a", 1, "b", 3))
	expectLines(t, "a \n", line(1, "a", 1))
	expectLines(t, "a\nb", line(1, "a", 1), line(2, "b", 1))
	expectLines(t, "a\nb\n", line(1, "a", 1), line(2, "b", 1))
	expectLines(t, "\na", line(2, "a", 1))
	expectLines(t, "\n\n\n  a\n\n b\n", line(4, "a", 3), line(6, "b", 2))
	expectLines(t, "a # b\nc", line(1, "a", 1), line(2, "c", 1))
	expectLines(t, "# a\n\nb#c\n", line(3, "b", 1))
}

func TestLinesSpacesAndTabs(t *testing.T) {
	expectLines(t, " a", line(1, "a", 2))
	expectLines(t, "\ta", line(1, "a", 2))
	expectLines(t, "\t\t a\t \tb  ", line(1, "a", 4, "b", 8))
	expectLines(t, "a\tb", line(1, "a", 1, "b", 3))
	expectLines(t, "one two   three", line(1, "one", 1, "two", 5, "three", 11))
	expectLines(t, "one\n  two\t\n \t three four", line(1, "one", 1), line(2, "two", 3), line(3, "three", 4, "four", 10))
}

func TestLinesComments(t *testing.T) {
	expectLines(t, "a#b", line(1, "a", 1))
	expectLines(t, "a #b c", line(1, "a", 1))
	expectLines(t, "a # b # c", line(1, "a", 1))
	expectLines(t, "a b#", line(1, "a", 1, "b", 3))
	expectLines(t, "#a\nb", line(2, "b", 1))
	expectLines(t, "a // b \"#\" c", line(1, "a", 1, "//", 3, "b", 6, "\"", 8))
	allBytes(func(b byte, s string) {
		if b == '\n' {
			return
		}
		expectLines(t, "a #"+s+"\nb", line(1, "a", 1), line(2, "b", 1))
		expectLines(t, "#"+s+s+"\n", [][]api.Word{}...)
		expectLines(t, "a#"+s, line(1, "a", 1))
	})
	expectLines(t, "a#"+strings.Repeat(" b", 100), line(1, "a", 1))
}

func TestLinesOfEveryByte(t *testing.T) {
	allBytes(func(b byte, s string) {
		switch {
		case b == '\n':
			expectLines(t, s)
			expectLines(t, "a"+s+"b", line(1, "a", 1), line(2, "b", 1))
		case b == ' ', b == '\t':
			expectLines(t, s)
			expectLines(t, "a"+s+"b", line(1, "a", 1, "b", 3))
		case b == '#':
			expectLines(t, s)
			expectLines(t, "a"+s+"b", line(1, "a", 1))
		case contains(visibles, b):
			expectLines(t, s, line(1, s, 1))
			expectLines(t, "a"+s+"b", line(1, "a"+s+"b", 1))
			expectLines(t, " "+s+"\n", line(1, s, 2))
		default:
			expectLinesError(t, s, 1, api.ErrForm)
			expectLinesError(t, "a"+s+"b", 1, api.ErrForm)
			expectLinesError(t, "a b\n"+s, 2, api.ErrForm)
			expectLinesError(t, "a\n \n b "+s+"# c\n d", 3, api.ErrForm)
			expectLinesError(t, "a\nb"+s+"\n", 2, api.ErrForm)
			expectLinesError(t, "a # c\n"+s+" # c", 2, api.ErrForm)
		}
	})
	expectLines(t, visibles, line(1, visibles, 1))
}

func TestLinesWithForeignCharacters(t *testing.T) {
	expectLinesError(t, "a\r\nb\r\n", 1, api.ErrForm)
	expectLinesError(t, "a\nZürich", 2, api.ErrForm)
	expectLinesError(t, "\ufeffa", 1, api.ErrForm)
	expectLinesError(t, "a\u00a0b", 1, api.ErrForm)
	expectLines(t, "a # Zürich\r\nb", line(1, "a", 1), line(2, "b", 1))
}

// lineOf returns a line of a number of words.
func lineOf(count int) string {
	return strings.Repeat("w ", count)
}

// wordsOfLine returns the words of lineOf.
func wordsOfLine(number, count int) []api.Word {
	var words []api.Word
	for i := range count {
		words = append(words, api.Word{Text: "w", Line: number, Col: 2*i + 1})
	}
	return words
}

func TestLinesMaxWords(t *testing.T) {
	for _, count := range []int{1, 2, api.MaxWords - 1, api.MaxWords} {
		expectLines(t, lineOf(count), wordsOfLine(1, count))
		expectLines(t, "\n"+lineOf(count)+"\n"+lineOf(count), wordsOfLine(2, count), wordsOfLine(3, count))
		expectLines(t, lineOf(count)+"# w w w\n", wordsOfLine(1, count))
	}
	for _, count := range []int{api.MaxWords + 1, api.MaxWords + 2, 2 * api.MaxWords, 1 << 15} {
		expectLinesError(t, lineOf(count), 1, api.ErrFull)
	}
	expectLinesError(t, "a\n\n"+lineOf(api.MaxWords+1)+"\nb", 3, api.ErrFull)
	expectLinesError(t, "a\n\n"+lineOf(api.MaxWords)+"w # c", 3, api.ErrFull)
	expectLinesError(t, strings.TrimSuffix(lineOf(api.MaxWords+1), " ")+"\n", 1, api.ErrFull)
}

func TestLinesMaxText(t *testing.T) {
	for _, c := range []struct {
		text string
		want [][]api.Word
	}{
		{strings.Repeat("x", api.MaxText), [][]api.Word{line(1, strings.Repeat("x", api.MaxText), 1)}},
		{strings.Repeat(" ", api.MaxText), nil},
		{strings.Repeat("\n", api.MaxText), nil},
		{"#" + strings.Repeat("\xff", api.MaxText-1), nil},
		{strings.Repeat("\n", api.MaxText-1) + "x", [][]api.Word{line(api.MaxText, "x", 1)}},
		{strings.Repeat(" ", api.MaxText-1) + "x", [][]api.Word{line(1, "x", api.MaxText)}},
	} {
		expectLines(t, c.text, c.want...)
		expectLinesError(t, c.text+"\n", 0, api.ErrFull)
		expectLinesError(t, c.text+"x", 0, api.ErrFull)
		expectLinesError(t, "\x00"+c.text, 0, api.ErrFull)
		expectLinesError(t, c.text+"\x00", 0, api.ErrFull)
	}
	// The length counts first, whatever else is wrong with the text.
	expectLinesError(t, strings.Repeat("\x00", api.MaxText+1), 0, api.ErrFull)
	expectLinesError(t, strings.Repeat("\x00", api.MaxText), 1, api.ErrForm)
	expectLinesError(t, lineOf(api.MaxText/2), 1, api.ErrFull)
	expectLinesError(t, lineOf(api.MaxText/2)+"w", 0, api.ErrFull)
	expectLinesError(t, strings.Repeat("\n", 1<<21), 0, api.ErrFull)
	expectLinesError(t, strings.Repeat("\n", api.MaxText-1)+"\r", api.MaxText, api.ErrForm)
}

func TestLinesFirstError(t *testing.T) {
	full, form := lineOf(api.MaxWords+1), "a \x7f b"
	expectLinesError(t, "a\n"+form+"\n"+full, 2, api.ErrForm)
	expectLinesError(t, "a\n"+full+"\n"+form, 2, api.ErrFull)
	expectLinesError(t, form+"\n"+form, 1, api.ErrForm)
	expectLinesError(t, full+"\n"+full, 1, api.ErrFull)
	// Of the two errors of one line, the form counts first, wherever it stands.
	expectLinesError(t, "\n"+full+"\x01", 2, api.ErrForm)
	expectLinesError(t, "\n\x01"+full, 2, api.ErrForm)
	expectLinesError(t, "\n"+lineOf(3)+"\x80 "+full, 2, api.ErrForm)
	expectLinesError(t, "\n"+full+" \x01 # c\n"+form, 2, api.ErrForm)
	expectLinesError(t, "\n"+full+"#\x01\n"+form, 2, api.ErrFull)
}

// linesModel divides a text byte by byte, with a position that is moved along.
func linesModel(src string) ([][]api.Word, int, api.Errno) {
	if len(src) > api.MaxText {
		return nil, 0, api.ErrFull
	}
	current := []api.Word{}
	all := [][]api.Word{}
	number, col := 1, 0
	inComment, inWord, form := false, false, false
	for _, b := range []byte(src + "\n") {
		col++
		if b == '\n' {
			if form {
				return nil, number, api.ErrForm
			}
			if len(current) > api.MaxWords {
				return nil, number, api.ErrFull
			}
			if len(current) > 0 {
				all = append(all, current)
			}
			current = []api.Word{}
			number, col = number+1, 0
			inComment, inWord = false, false
			continue
		}
		if inComment || b == '#' {
			inComment = true
			continue
		}
		if b == ' ' || b == '\t' {
			inWord = false
			continue
		}
		if !contains(visibles, b) {
			form = true
			continue
		}
		if !inWord {
			current = append(current, api.Word{Line: number, Col: col})
		}
		inWord = true
		current[len(current)-1].Text += string([]byte{b})
	}
	return all, 0, api.OK
}

func TestLinesOfAllShortTexts(t *testing.T) {
	// The last element has almost as many words as a line may have.
	alphabet := []string{"a", "~", " ", "\t", "\n", "#", "\x00", " " + lineOf(api.MaxWords-1)}
	texts(alphabet, 6, func(src string) {
		want, wantNumber, wantErrno := linesModel(src)
		got, number, errno := Lines(src)
		if errno != wantErrno || number != wantNumber || !equalLines(got, want) {
			t.Fatalf("Lines(%q) = %v, %d, %d; want %v, %d, %d", src, got, number, errno, want, wantNumber, wantErrno)
		}
	})
}

// memoryOf returns the addresses of the first and of the last byte of the memory of a string or slice, or false if it has none.
func memoryOf[T any](start *T, length int) (memory [2]uintptr, found bool) {
	size := unsafe.Sizeof(*new(T)) * uintptr(length)
	if start == nil || size == 0 {
		return memory, false
	}
	address := uintptr(unsafe.Pointer(start))
	return [2]uintptr{address, address + size - 1}, true
}

func expectApart(t *testing.T, memories [][2]uintptr) {
	t.Helper()
	slices.SortFunc(memories, func(a, b [2]uintptr) int {
		return slices.Compare(a[:], b[:])
	})
	for i := 1; i < len(memories); i++ {
		if memories[i][0] <= memories[i-1][1] {
			t.Errorf("two parts share the memory from %#x to %#x", memories[i][0], memories[i-1][1])
		}
	}
}

func TestLinesShareNoMemory(t *testing.T) {
	src := "a bc def\n\n  ghij a # comment\n" + lineOf(api.MaxWords) + "\nlast"
	lines, _, errno := Lines(src)
	if errno != api.OK || len(lines) != 4 {
		t.Fatalf("Lines(%q) = %d lines, %d; want 4, OK", src, len(lines), errno)
	}
	var memories [][2]uintptr
	add := func(memory [2]uintptr, found bool) {
		if found {
			memories = append(memories, memory)
		}
	}
	add(memoryOf(unsafe.StringData(src), len(src)))
	add(memoryOf(unsafe.SliceData(lines), cap(lines)))
	for _, words := range lines {
		add(memoryOf(unsafe.SliceData(words), cap(words)))
		for _, word := range words {
			add(memoryOf(unsafe.StringData(word.Text), len(word.Text)))
		}
	}
	expectApart(t, memories)
}

func TestLinesResultIsIndependent(t *testing.T) {
	src := "a b\nc d e\n" + lineOf(api.MaxWords)
	first, _, _ := Lines(src)
	second, _, _ := Lines(src)
	// An element appended behind a line, or written into it, must not appear in another line.
	for i := range first {
		first[i] = append(first[i], api.Word{Text: "x", Line: -1, Col: -1})
		for j := range first[i] {
			first[i][j] = api.Word{Text: "y", Line: -2, Col: -2}
		}
		for k := i + 1; k < len(first); k++ {
			if !slices.Equal(first[k], second[k]) {
				t.Errorf("a change of line %d of the result changes line %d", i, k)
			}
		}
	}
	third, _, _ := Lines(src)
	if !equalLines(second, third) {
		t.Error("a change of a result changes the result of another call")
	}
}

func expectJoin(t *testing.T, l [][]string, want string) {
	t.Helper()
	if got := Join(l); got != want {
		t.Errorf("Join(%q) = %s; want %s", l, short(got), short(want))
	}
}

func TestJoinOrdinaryLists(t *testing.T) {
	expectJoin(t, [][]string{{"a"}}, "a\n")
	expectJoin(t, [][]string{{"a", "b"}}, "a b\n")
	expectJoin(t, [][]string{{"a", "b"}, {"d"}}, "a b\nd\n")
	expectJoin(t, [][]string{{"times", "0", "1"}, {"-3..9"}, {"x", "x", "x"}}, "times 0 1\n-3..9\nx x x\n")
	expectJoin(t, [][]string{{visibles}}, visibles+"\n")
	long := strings.Repeat("x", 2*api.MaxText)
	expectJoin(t, [][]string{{long, "y"}, {long}}, long+" y\n"+long+"\n")
}

func TestJoinWithoutLists(t *testing.T) {
	expectJoin(t, nil, "")
	expectJoin(t, [][]string{}, "")
}

func TestJoinEmptyList(t *testing.T) {
	for _, empty := range [][]string{nil, {}} {
		expectJoin(t, [][]string{empty}, "")
		expectJoin(t, [][]string{empty, {"a"}}, "")
		expectJoin(t, [][]string{{"a"}, empty}, "")
		expectJoin(t, [][]string{{"a"}, empty, {"b"}}, "")
	}
}

func TestJoinElementsThatAreNoWords(t *testing.T) {
	bad := func(s string) {
		t.Helper()
		expectJoin(t, [][]string{{s}}, "")
		expectJoin(t, [][]string{{s, "a"}}, "")
		expectJoin(t, [][]string{{"a", s}}, "")
		expectJoin(t, [][]string{{"a", s, "b"}}, "")
		expectJoin(t, [][]string{{"a"}, {"b", s}}, "")
		expectJoin(t, [][]string{{s}, {"a"}}, "")
	}
	bad("")
	bad("a b")
	bad("a\n")
	bad("Zürich")
	allBytes(func(b byte, s string) {
		if contains(visibles, b) {
			expectJoin(t, [][]string{{s, "a" + s, s + "b"}, {"a" + s + "b"}}, s+" a"+s+" "+s+"b\na"+s+"b\n")
			return
		}
		bad(s)
		bad("a" + s)
		bad(s + "b")
		bad("a" + s + "b")
	})
}

func TestJoinMaxWords(t *testing.T) {
	elements := slices.Repeat([]string{"w"}, 3*api.MaxWords)
	for _, count := range []int{1, api.MaxWords - 1, api.MaxWords} {
		want := strings.TrimSuffix(lineOf(count), " ") + "\n"
		expectJoin(t, [][]string{elements[:count]}, want)
		expectJoin(t, [][]string{elements[:count], elements[:count]}, want+want)
	}
	for _, count := range []int{api.MaxWords + 1, api.MaxWords + 2, 3 * api.MaxWords} {
		expectJoin(t, [][]string{elements[:count]}, "")
		expectJoin(t, [][]string{{"a"}, elements[:count]}, "")
		expectJoin(t, [][]string{elements[:count], {"a"}}, "")
	}
}

// A text that Join returns has the elements as its words, and is what Join makes of them.
func TestJoinAndLines(t *testing.T) {
	elements := []string{"a", "!", "~~", "Bern", "-7", "3..9"}
	for first := range 4 {
		for second := range 4 {
			l := [][]string{elements[:first+1], elements[second:], {elements[second]}}
			lines, number, errno := Lines(Join(l))
			if errno != api.OK || number != 0 || len(lines) != len(l) {
				t.Fatalf("Lines(Join(%q)) = %v, %d, %d; want as many lines, 0, OK", l, lines, number, errno)
			}
			for i, words := range lines {
				var again []string
				for _, word := range words {
					again = append(again, word.Text)
					if word.Line != i+1 {
						t.Errorf("Lines(Join(%q)) has the word %v in line %d", l, word, i+1)
					}
				}
				if !slices.Equal(again, l[i]) {
					t.Errorf("Lines(Join(%q)) has the words %q in line %d", l, again, i+1)
				}
			}
		}
	}
}

// joinArguments returns lists with spare places, which are filled, and the whole memory behind them.
func joinArguments(elements ...[]string) (l [][]string, whole [][]string) {
	whole = make([][]string, 0, 2*len(elements)+2)
	for _, list := range elements {
		memory := append(slices.Clone(list), "spare", "places", "x", "y")
		whole = append(whole, memory[:len(list)])
	}
	for len(whole) < cap(whole) {
		whole = append(whole, []string{"spare", "list"})
	}
	return whole[:len(elements)], whole
}

// snapshot copies lists together with their spare places.
func snapshot(whole [][]string) [][]string {
	var lists [][]string
	for _, list := range whole {
		lists = append(lists, slices.Clone(list[:cap(list)]))
	}
	return lists
}

func TestJoinLeavesItsArgumentsAlone(t *testing.T) {
	full := slices.Repeat([]string{"w"}, api.MaxWords+1)
	for _, elements := range [][][]string{{{"a", "b"}, {"c"}}, {{"a"}, {}}, {{"a"}, {"b", ""}}, {{"a"}, full}, {full[1:], full[2:]}, {}} {
		l, whole := joinArguments(elements...)
		before := snapshot(whole)
		Join(l)
		if !reflect.DeepEqual(snapshot(whole), before) {
			t.Errorf("Join(%q) changes its argument or the places behind it", elements)
		}
	}
}

func TestJoinSharesNoMemory(t *testing.T) {
	word := strings.Repeat("x", 100)
	for _, l := range [][][]string{{{word}}, {{word, "y"}}, {{word}, {word}}} {
		text := Join(l)
		one, _ := memoryOf(unsafe.StringData(word), len(word))
		other, _ := memoryOf(unsafe.StringData(text), len(text))
		expectApart(t, [][2]uintptr{one, other})
	}
}

func BenchmarkLinesWithMostWords(b *testing.B) {
	src := strings.Repeat(lineOf(api.MaxWords-1)+"w\n", api.MaxText/(2*api.MaxWords))
	for b.Loop() {
		Lines(src)
	}
}
