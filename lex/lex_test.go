package lex_test

import (
	"slices"
	"strings"
	"testing"

	"tapewright/api"
	"tapewright/lex"
)

// linesByDocument goes through the bytes one by one, as the document's words tell them.
func linesByDocument(s string) []lex.Line {
	var lines []lex.Line
	line, word, left := lex.Line{At: 1}, []byte(nil), false
	endWord := func() {
		if len(word) > 0 {
			line.Words = append(line.Words, string(word))
		}
		word = nil
	}
	endLine := func() {
		endWord()
		if len(line.Words) > 0 {
			lines = append(lines, line)
		}
		line, left = lex.Line{At: line.At + 1}, false
	}
	for i := range len(s) {
		switch b := s[i]; {
		case b == 10:
			endLine()
		case b == '#':
			left = true
		case left:
		case b == 32:
			endWord()
		default:
			word = append(word, b)
		}
	}
	endLine()
	return lines
}

// nameByDocument holds every byte against those that a name may have.
func nameByDocument(s string) bool {
	const letters, digits = "abcdefghijklmnopqrstuvwxyz", "0123456789"
	for i := range len(s) {
		if !strings.Contains(letters, s[i:i+1]) && (i == 0 || !strings.Contains(digits, s[i:i+1])) {
			return false
		}
	}
	return len(s) == 1 || len(s) == 2 || len(s) == 3 || len(s) == 4 || len(s) == 5 || len(s) == 6 || len(s) == 7 || len(s) == 8
}

func sameLines(a, b []lex.Line) bool {
	return slices.EqualFunc(a, b, func(x, y lex.Line) bool { return x.At == y.At && slices.Equal(x.Words, y.Words) })
}

// wantLines keeps what it tells short, as some texts are long.
func wantLines(t *testing.T, s string, want []lex.Line) {
	t.Helper()
	got := lex.Lines(s)
	if !sameLines(got, want) {
		t.Fatalf("Lines(%q) of %d bytes: %d lines, %v, not %d, %v", s[:min(len(s), 80)], len(s), len(got), got[:min(len(got), 8)], len(want), want[:min(len(want), 8)])
	}
}

func wantName(t *testing.T, s string, want bool) {
	t.Helper()
	if got := lex.Name(s); got != want {
		t.Errorf("Name(%q) of %d bytes: %t", s[:min(len(s), 80)], len(s), got)
	}
}

// at is a line of that number, whose words are parted by commas.
func at(number int, words string) lex.Line {
	return lex.Line{At: number, Words: strings.Split(words, ",")}
}

// textsOf has all texts of the parts, up to so many of them.
func textsOf(parts []string, longest int) []string {
	texts := []string{""}
	last := texts
	for range longest {
		var longer []string
		for _, text := range last {
			for _, part := range parts {
				longer = append(longer, text+part)
			}
		}
		texts = append(texts, longer...)
		last = longer
	}
	return texts
}

// source makes texts that are the same at each run.
type source struct {
	state uint64
}

func (s *source) below(limit int) int {
	s.state = s.state*6364136223846793005 + 1442695040888963407
	return int(s.state>>33) % limit
}

// text has any bytes at all, those that part something often among them.
func (s *source) text(longest int) string {
	list := make([]byte, s.below(longest+1))
	for i := range list {
		if list[i] = byte(s.below(256)); s.below(2) == 0 {
			list[i] = "\n #a"[s.below(4)]
		}
	}
	return string(list)
}

// P8.1: the document's example, and others by hand.
func TestLinesByHand(t *testing.T) {
	for _, c := range []struct {
		s    string
		want []lex.Line
	}{
		{"a  b # c", []lex.Line{at(1, "a,b")}},
		{"param w 2\nloss w\n", []lex.Line{at(1, "param,w,2"), at(2, "loss,w")}},
		{"param w 2\nloss w", []lex.Line{at(1, "param,w,2"), at(2, "loss,w")}},
		{"const k 2 = 1/2 -3", []lex.Line{at(1, "const,k,2,=,1/2,-3")}},
		{"y = scale w 1/2", []lex.Line{at(1, "y,=,scale,w,1/2")}},
		{"y=scale w", []lex.Line{at(1, "y=scale,w")}},
		{"a", []lex.Line{at(1, "a")}},
		{"a\n", []lex.Line{at(1, "a")}},
		{"\na", []lex.Line{at(2, "a")}},
		{"a\n\n\nb\n\nc\n\n", []lex.Line{at(1, "a"), at(4, "b"), at(6, "c")}},
		{"a\nb c\na\nb c", []lex.Line{at(1, "a"), at(2, "b,c"), at(3, "a"), at(4, "b,c")}},
		{"c\nb\na", []lex.Line{at(1, "c"), at(2, "b"), at(3, "a")}},
		{"b a b a", []lex.Line{at(1, "b,a,b,a")}},
	} {
		wantLines(t, c.s, c.want)
	}
}

// P8.1: lines without words count for nothing, but have their numbers.
func TestLinesWithoutWords(t *testing.T) {
	for _, s := range []string{"", "\n", "\n\n\n", " ", "   ", " \n  \n ", "#", "##", "# a", "#a", " #", "   # a b", "#\n#\n", "# a\n # b\n\n  #", "# a # b"} {
		wantLines(t, s, nil)
		if got := lex.Lines(s); len(got) != 0 {
			t.Errorf("Lines(%q): %d lines", s, len(got))
		}
		number := 1 + strings.Count(s, "\n")
		wantLines(t, s+"\nx y", []lex.Line{at(number+1, "x,y")})
		wantLines(t, "x y\n"+s, []lex.Line{at(1, "x,y")})
		wantLines(t, "x\n"+s+"\ny", []lex.Line{at(1, "x"), at(number+2, "y")})
	}
}

// P8.1: what stands behind #, and this, is left off, up to the line's end and no further.
func TestBehindTheSign(t *testing.T) {
	for _, rest := range []string{"", "b", " b", "b ", " b c", "#", "# b", "b#c", " # b # c", "\t", "\x00", "\xff", "= 1"} {
		for _, ahead := range []string{"a", "a ", " a", "  a  "} {
			wantLines(t, ahead+"#"+rest, []lex.Line{at(1, "a")})
			wantLines(t, ahead+"#"+rest+"\nd", []lex.Line{at(1, "a"), at(2, "d")})
			wantLines(t, "d\n"+ahead+"#"+rest+"\n e#", []lex.Line{at(1, "d"), at(2, "a"), at(3, "e")})
		}
		wantLines(t, "#"+rest, nil)
		wantLines(t, "a b#"+rest, []lex.Line{at(1, "a,b")})
	}
	wantLines(t, "y = neg w# rest", []lex.Line{at(1, "y,=,neg,w")})
}

// P8.1: of all bytes, three alone part something; the others stand in words as they are.
func TestEachByte(t *testing.T) {
	for n := range 256 {
		b := string([]byte{byte(n)})
		alone, between, twice := []lex.Line{{At: 1, Words: []string{b}}}, []lex.Line{{At: 1, Words: []string{"a" + b + "c"}}}, []lex.Line{{At: 1, Words: []string{b + b}}}
		switch n {
		case 10:
			alone, between, twice = nil, []lex.Line{at(1, "a"), at(2, "c")}, nil
		case 32:
			alone, between, twice = nil, []lex.Line{at(1, "a,c")}, nil
		case '#':
			alone, between, twice = nil, []lex.Line{at(1, "a")}, nil
		}
		wantLines(t, b, alone)
		wantLines(t, "a"+b+"c", between)
		wantLines(t, b+b, twice)
	}
	for n := range 1 << 16 {
		s := string([]byte{byte(n >> 8), byte(n)})
		wantLines(t, s, linesByDocument(s))
		wantLines(t, s+" b", linesByDocument(s+" b"))
	}
}

// P8.1: no other space is a blank, whichever runes a text has, and whether they are whole or not.
func TestOtherSpaces(t *testing.T) {
	for _, space := range []string{"\t", "\v", "\f", "\r", "\x00", "\u0085", "\u00a0", "\u1680", "\u2003", "\u2028", "\u2029", "\u3000", "\ufeff", "\ufffd", "\xc2", "\xa0", "\xe2\x80", "\xf0", "\xff", "\xed\xa0\x80"} {
		wantLines(t, "a"+space+"b", []lex.Line{{At: 1, Words: []string{"a" + space + "b"}}})
		wantLines(t, "a "+space+" b", []lex.Line{{At: 1, Words: []string{"a", space, "b"}}})
		wantLines(t, space+"\n"+space+"#"+space, []lex.Line{{At: 1, Words: []string{space}}, {At: 2, Words: []string{space}}})
	}
	wantLines(t, "a\r\nb\r\n", []lex.Line{at(1, "a\r"), at(2, "b\r")})
}

// P8.1: all short texts of what parts, what does not, and what is odd.
func TestLinesOfAllShortTexts(t *testing.T) {
	for _, s := range textsOf([]string{"\n", " ", "#", "a", "b1", "\t", "\xc2"}, 6) {
		wantLines(t, s, linesByDocument(s))
	}
}

// P8.1 and P1: texts of any bytes.
func TestLinesOfAnyBytes(t *testing.T) {
	from := &source{state: 8}
	for range 20000 {
		s := from.text(60)
		wantLines(t, s, linesByDocument(s))
	}
	for range 20 {
		s := from.text(1 << 16)
		wantLines(t, s, linesByDocument(s))
	}
}

// P8.1: names of 1 and of 8 bytes and between them, none of no byte and of 9.
func TestNameByHand(t *testing.T) {
	for _, s := range []string{"a", "z", "m", "a1", "z9", "a0", "ab", "w", "loss", "param", "abcdefgh", "zzzzzzzz", "a0123456", "a1b2c3d4", "abcdefg9"} {
		wantName(t, s, true)
	}
	for _, s := range []string{"", " ", "#", "\n", "\x00", "1", "0", "9", "1a", "0a", "9abcdefg", "01234567", "A", "Z", "aB", "Ab", "abcdefgH", "a_", "_a", "_", "a-", "-a", "-1", "1/2", "=", "a ", " a", "a b", "a#", "a\n", "a\x00",
		"a.b", "abcdefghi", "a12345678", "abcdefgh ", " abcdefgh", "`", "{", "/", ":", "a`", "a{", "a/", "a:", "\xff", "a\xff", "\u00e4", "a\u00e4", "\u0430", "a\u0661", "\uff41", strings.Repeat("a", 1<<20)} {
		wantName(t, s, false)
	}
}

// P8.1: the limit is api's, and the document's.
func TestNameLimit(t *testing.T) {
	if api.MaxName != 8 {
		t.Fatalf("MaxName: %d", api.MaxName)
	}
	for n := range 600 {
		wantName(t, strings.Repeat("a", n), n >= 1 && n <= 8)
		wantName(t, strings.Repeat("7", n), false)
	}
	// Bytes are counted, not runes: these are 4 runes of 8 bytes.
	wantName(t, strings.Repeat("\u00e4", 4), false)
}

// P8.1: every text of one and of two bytes, and each byte at each place of longer ones.
func TestNameOfEachByte(t *testing.T) {
	for n := range 1 << 16 {
		s := string([]byte{byte(n >> 8), byte(n)})
		wantName(t, s, nameByDocument(s))
		wantName(t, s[1:], nameByDocument(s[1:]))
	}
	for length := 1; length <= 10; length++ {
		for place := range length {
			for n := range 256 {
				list := []byte("q7wert9yui")[:length]
				list[place] = byte(n)
				wantName(t, string(list), nameByDocument(string(list)))
			}
		}
	}
	for _, s := range textsOf([]string{"a", "z", "0", "9", "A", " "}, 6) {
		wantName(t, s, nameByDocument(s))
	}
}

// P8.2: more blanks, wherever one may stand, turn nothing.
func TestMoreBlanks(t *testing.T) {
	from := &source{state: 82}
	for _, s := range append(textsOf([]string{"\n", " ", "#", "a", "b1"}, 5), "param w 2\n\n# all\n  y = neg w# rest\n") {
		want := lex.Lines(s)
		for _, more := range []string{" ", "  ", strings.Repeat(" ", 40)} {
			wantLines(t, strings.ReplaceAll(s, " ", " "+more), want)
			wantLines(t, strings.ReplaceAll(s, "\n", more+"\n"), want)
			wantLines(t, strings.ReplaceAll(s, "\n", "\n"+more), want)
			wantLines(t, strings.ReplaceAll(s, "#", more+"#"), want)
			wantLines(t, strings.ReplaceAll(s, "#", "#"+more), want)
			wantLines(t, more+s, want)
			wantLines(t, s+more, want)
		}
	}
	for range 5000 {
		s := from.text(40)
		wider := strings.ReplaceAll(s, " ", strings.Repeat(" ", 1+from.below(5)))
		wantLines(t, " "+strings.ReplaceAll(wider, "\n", "  \n ")+" ", lex.Lines(s))
	}
}

// P8.1: the words that are answered, put one blank apart on lines of their numbers, are answered again.
func TestLinesOfTheirWords(t *testing.T) {
	from := &source{state: 81}
	for range 5000 {
		lines := lex.Lines(from.text(60))
		var text strings.Builder
		number := 1
		for _, line := range lines {
			text.WriteString(strings.Repeat("\n", line.At-number) + strings.Join(line.Words, " "))
			number = line.At
		}
		wantLines(t, text.String(), lines)
	}
}

// R1: answers are new memory, and no two lists of them share any.
func TestAnswersAreNew(t *testing.T) {
	const s = "a b\nc d # e\n\nf g h"
	want := []lex.Line{at(1, "a,b"), at(2, "c,d"), at(4, "f,g,h")}
	first := lex.Lines(s)
	for i := range first {
		longer := append(first[i].Words, "x", "y", "z")
		longer[len(longer)-1] = "q"
	}
	if !sameLines(first, want) {
		t.Fatalf("lists share: %v", first)
	}
	for i := range first {
		first[i].At = -1
		for j := range first[i].Words {
			first[i].Words[j] = "changed"
		}
	}
	wantLines(t, s, want)
}

// P1 and R4: all texts are answered, alike each time, with numbers that rise and words that are some.
func TestAllTextsAreAnswered(t *testing.T) {
	from := &source{state: 1}
	for range 5000 {
		s := from.text(80)
		first, last := lex.Lines(s), 0
		wantLines(t, s, first)
		for _, line := range first {
			if line.At <= last || line.At > 1+strings.Count(s, "\n") || len(line.Words) == 0 {
				t.Fatalf("Lines(%q): %v behind the line %d", s, line, last)
			}
			for _, word := range line.Words {
				if word == "" || strings.ContainsAny(word, " #\n") {
					t.Fatalf("Lines(%q): the word %q", s, word)
				}
				wantName(t, word, nameByDocument(word))
			}
			last = line.At
		}
		wantName(t, s, nameByDocument(s))
	}
}

// P1: texts that are long, in lines, in words, in blanks, or in one of these.
func TestLongTexts(t *testing.T) {
	const many = 1 << 20
	word := strings.Repeat("ab1\xff", many)
	wantLines(t, word, []lex.Line{{At: 1, Words: []string{word}}})
	wantLines(t, strings.Repeat("\n", many)+"a", []lex.Line{at(many+1, "a")})
	wantLines(t, strings.Repeat(" ", many)+"a"+strings.Repeat(" ", many)+"b", []lex.Line{at(1, "a,b")})
	wantLines(t, "a #"+strings.Repeat("# ", many), []lex.Line{at(1, "a")})
	wantLines(t, strings.Repeat("#\n", many), nil)
	wantLines(t, strings.Repeat("a ", many), []lex.Line{{At: 1, Words: slices.Repeat([]string{"a"}, many)}})
	lines := lex.Lines(strings.Repeat("a b\n", many))
	if len(lines) != many || lines[many-1].At != many || !slices.Equal(lines[many-1].Words, []string{"a", "b"}) {
		t.Errorf("%d lines of %d", len(lines), many)
	}
}
