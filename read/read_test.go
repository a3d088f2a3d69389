package read_test

import (
	"math/big"
	"reflect"
	"regexp"
	"slices"
	"strconv"
	"strings"
	"testing"

	"tapewright/api"
	"tapewright/lex"
	"tapewright/read"
)

// The rows of the document's table, as patterns of words one blank apart.
const (
	namePattern     = `([a-z][a-z0-9]{0,7})`
	numbersPattern  = `((?: (?:0|[1-9][0-9]?))*)`
	rationalPattern = `(-?[0-9]+(?:/[0-9]+)?)`
)

var (
	givenRow    = regexp.MustCompile(`^(param|input) ` + namePattern + numbersPattern + `$`)
	constRow    = regexp.MustCompile(`^const ` + namePattern + numbersPattern + ` =((?: -?[0-9]+(?:/[0-9]+)?)*)$`)
	pairRow     = regexp.MustCompile(`^` + namePattern + ` = (add|sub|mul|max|above|matmul) ` + namePattern + ` ` + namePattern + `$`)
	singleRow   = regexp.MustCompile(`^` + namePattern + ` = (relu|abs|step|sign|transpose|sum) ` + namePattern + `$`)
	scaleRow    = regexp.MustCompile(`^` + namePattern + ` = scale ` + namePattern + ` ` + rationalPattern + `$`)
	powerRow    = regexp.MustCompile(`^` + namePattern + ` = power ` + namePattern + ` ([0-6])$`)
	shapedRow   = regexp.MustCompile(`^` + namePattern + ` = (reshape|spread) ` + namePattern + numbersPattern + `$`)
	lossRow     = regexp.MustCompile(`^loss ` + namePattern + `$`)
	pairs       = []string{"add", "sub", "mul", "max", "above", "matmul"}
	singles     = []string{"relu", "abs", "step", "sign", "transpose", "sum"}
	othersMade  = []string{"scale", "power", "reshape", "spread"}
	leaves      = []string{"param", "input"}
	someNames   = []string{"a", "w2", "abcdefgh", "param", "input", "const", "loss", "add", "relu", "scale", "power", "spread", "z9"}
	noNames     = []string{"", "=", "2", "2a", "A", "aB", "a_", "-a", "abcdefghi", "a b", "a ", " a", "a#", "a\n", "a\x00", "\xff", "a\u00e4", "1/2", "a="}
	rationals   = []string{"0", "1", "-1", "1/2", "-1/2", "7/3", "10", "-10/7", "99999999999999999999", "-1/99999999999999999999"}
	noRationals = []string{"", "-", "/", "=", "a", "00", "01", "-0", "+1", "1.5", "1/1", "2/4", "0/2", "1/0", "1/", "/2", "1/-2", "-1/-2", "1/02", "1 ", " 1", "1/2/3", "1e2", "\u0661", "1\n", "--1", "1_0"}
	noNumbers   = []string{"", "00", "01", "07", "09", "000", "001", "100", "010", "640", "064", "-1", "-0", "+1", "1.", "0x1", "a", "1a", "a1", " 1", "1 ", "1/2", "/", "=", ":", "1:", "/1", "1_", "\u0661", "\xff", "1\n", "1000000", "18446744073709551617"}
)

// shapeByDocument is the numbers of words that begin with a blank each, their size, and whether they are a shape.
func shapeByDocument(words string) ([]int, int, bool) {
	var list []int
	size := 1
	for _, word := range strings.Fields(words) {
		n, _ := strconv.Atoi(word)
		if n < 1 || n > 64 {
			return nil, 0, false
		}
		list, size = append(list, n), min(size*n, 1000)
	}
	return list, size, len(list) <= 4 && size <= 64
}

// rationalByDocument holds a text against the one that math/big writes.
func rationalByDocument(s string) bool {
	r, ok := new(big.Rat).SetString(s)
	return ok && r.RatString() == s
}

// stmtByDocument is told by the table's rows as patterns; false, if the words are none.
func stmtByDocument(words []string) (read.Stmt, bool) {
	if slices.ContainsFunc(words, func(word string) bool { return word == "" || strings.ContainsAny(word, " \n") }) {
		return read.Stmt{}, false
	}
	text := strings.Join(words, " ")
	if m := givenRow.FindStringSubmatch(text); m != nil {
		dims, _, ok := shapeByDocument(m[3])
		return read.Stmt{Name: m[2], Op: m[1], Dims: dims}, ok
	}
	if m := constRow.FindStringSubmatch(text); m != nil {
		dims, size, ok := shapeByDocument(m[2])
		data := strings.Fields(m[3])
		wrong := slices.ContainsFunc(data, func(k string) bool { return !rationalByDocument(k) })
		return read.Stmt{Name: m[1], Op: "const", Dims: dims, Data: data}, ok && !wrong && len(data) == size
	}
	if m := pairRow.FindStringSubmatch(text); m != nil {
		return read.Stmt{Name: m[1], Op: m[2], Args: []string{m[3], m[4]}}, true
	}
	if m := singleRow.FindStringSubmatch(text); m != nil {
		return read.Stmt{Name: m[1], Op: m[2], Args: []string{m[3]}}, true
	}
	if m := scaleRow.FindStringSubmatch(text); m != nil {
		return read.Stmt{Name: m[1], Op: "scale", Args: []string{m[2]}, K: m[3]}, rationalByDocument(m[3])
	}
	if m := powerRow.FindStringSubmatch(text); m != nil {
		return read.Stmt{Name: m[1], Op: "power", Args: []string{m[2]}, N: int(m[3][0] - '0')}, true
	}
	if m := shapedRow.FindStringSubmatch(text); m != nil {
		dims, _, ok := shapeByDocument(m[4])
		return read.Stmt{Name: m[1], Op: m[2], Args: []string{m[3]}, Dims: dims}, ok
	}
	if m := lossRow.FindStringSubmatch(text); m != nil {
		return read.Stmt{Op: "loss", Args: []string{m[1]}}, true
	}
	return read.Stmt{}, false
}

// same takes lists that are nil and that are empty as the same.
func same(a, b read.Stmt) bool {
	return a.Name == b.Name && a.Op == b.Op && slices.Equal(a.Args, b.Args) && slices.Equal(a.Dims, b.Dims) && a.K == b.K && a.N == b.N && slices.Equal(a.Data, b.Data)
}

func line(words string) lex.Line {
	return lex.Line{At: 1, Words: strings.Split(words, " ")}
}

func wantStmt(t *testing.T, words string, want read.Stmt) {
	t.Helper()
	if got, e := read.Parse(line(words)); e != api.OK || !same(got, want) {
		t.Fatalf("Parse(%q): %+v, %d, not %+v", words, got, e, want)
	}
	if got, at, e := read.All(words); e != api.OK || at != 0 || len(got) != 1 || !same(got[0], want) {
		t.Fatalf("All(%q): %+v, %d, %d, not %+v", words, got, at, e, want)
	}
}

// wantNone holds the rest of the answer against zero values, too.
func wantNone(t *testing.T, words []string) {
	t.Helper()
	if got, e := read.Parse(lex.Line{At: 1, Words: words}); e != api.ErrForm || !reflect.DeepEqual(got, read.Stmt{}) {
		t.Fatalf("Parse(%q): %+v, %d", words[:min(len(words), 80)], got, e)
	}
}

func wantAsDocument(t *testing.T, words []string) {
	t.Helper()
	want, ok := stmtByDocument(words)
	if !ok {
		wantNone(t, words)
		return
	}
	if got, e := read.Parse(lex.Line{At: 1, Words: words}); e != api.OK || !same(got, want) {
		t.Fatalf("Parse(%q): %+v, %d, not %+v", words, got, e, want)
	}
}

// wantAll tells of a text the lines of which the words are asked for one by one.
func wantAll(t *testing.T, s string) {
	t.Helper()
	var want []read.Stmt
	place, fault := 0, api.OK
	for _, l := range lex.Lines(s) {
		next, e := read.Parse(l)
		if e != api.OK {
			want, place, fault = nil, l.At, e
			break
		}
		want = append(want, next)
	}
	got, at, e := read.All(s)
	if e != fault || at != place || !slices.EqualFunc(got, want, same) || e != api.OK && got != nil {
		t.Fatalf("All(%q): %+v, %d, %d, not %+v, %d, %d", s[:min(len(s), 200)], got, at, e, want, place, fault)
	}
}

// allStatements has one or more of each row and each operation.
func allStatements() []string {
	list := []string{"loss a", "loss loss", "const c = 5", "const c 1 = -1/2", "const c 2 2 = 0 1 -2 3/4", "const const = 0",
		"y = scale a -1/2", "y = scale a 0", "y = power a 0", "y = power a 6"}
	for _, op := range leaves {
		list = append(list, op+" w", op+" w 2", op+" "+op+" 2 3", op+" w 64", op+" w 1 1 1 1", op+" w 2 2 4 4")
	}
	for _, op := range pairs {
		list = append(list, "y = "+op+" a b", op+" = "+op+" "+op+" "+op)
	}
	for _, op := range singles {
		list = append(list, "y = "+op+" a", "relu = "+op+" abs")
	}
	for _, op := range []string{"reshape", "spread"} {
		list = append(list, "y = "+op+" a", "y = "+op+" a 64", "y = "+op+" a 2 3 4 1")
	}
	return list
}

// source makes numbers that are the same at each run.
type source struct {
	state uint64
}

func (s *source) below(limit int) int {
	s.state = s.state*6364136223846793005 + 1442695040888963407
	return int(s.state>>33) % limit
}

func (s *source) one(list []string) string {
	return list[s.below(len(list))]
}

// P9.1: the document's example, and others by hand, one or more of each row.
func TestParseByHand(t *testing.T) {
	for _, c := range []struct {
		words string
		want  read.Stmt
	}{
		{"y = scale w 1/2", read.Stmt{Name: "y", Op: "scale", Args: []string{"w"}, K: "1/2"}},
		{"param w", read.Stmt{Name: "w", Op: "param"}},
		{"param w 2 3", read.Stmt{Name: "w", Op: "param", Dims: []int{2, 3}}},
		{"input x 64", read.Stmt{Name: "x", Op: "input", Dims: []int{64}}},
		{"input x 2 4 8 1", read.Stmt{Name: "x", Op: "input", Dims: []int{2, 4, 8, 1}}},
		{"const c = -7", read.Stmt{Name: "c", Op: "const", Data: []string{"-7"}}},
		{"const c 2 1 = 1 -1/2", read.Stmt{Name: "c", Op: "const", Dims: []int{2, 1}, Data: []string{"1", "-1/2"}}},
		{"y = add a b", read.Stmt{Name: "y", Op: "add", Args: []string{"a", "b"}}},
		{"y = matmul b a", read.Stmt{Name: "y", Op: "matmul", Args: []string{"b", "a"}}},
		{"y = above y y", read.Stmt{Name: "y", Op: "above", Args: []string{"y", "y"}}},
		{"y = transpose a", read.Stmt{Name: "y", Op: "transpose", Args: []string{"a"}}},
		{"y = power a 3", read.Stmt{Name: "y", Op: "power", Args: []string{"a"}, N: 3}},
		{"y = power a 0", read.Stmt{Name: "y", Op: "power", Args: []string{"a"}}},
		{"y = reshape a 3 2", read.Stmt{Name: "y", Op: "reshape", Args: []string{"a"}, Dims: []int{3, 2}}},
		{"y = spread a", read.Stmt{Name: "y", Op: "spread", Args: []string{"a"}}},
		{"loss a", read.Stmt{Op: "loss", Args: []string{"a"}}},
		{"loss = sum loss", read.Stmt{Name: "loss", Op: "sum", Args: []string{"loss"}}},
		{"param = add input const", read.Stmt{Name: "param", Op: "add", Args: []string{"input", "const"}}},
		{"const = relu const", read.Stmt{Name: "const", Op: "relu", Args: []string{"const"}}},
	} {
		wantStmt(t, c.words, c.want)
	}
}

// P9.1: each operation of each row, with all that it has and nothing that it has not.
func TestEachOperation(t *testing.T) {
	for _, name := range someNames {
		for _, a := range someNames {
			for _, op := range leaves {
				wantStmt(t, op+" "+name, read.Stmt{Name: name, Op: op})
				wantStmt(t, op+" "+name+" 2 10", read.Stmt{Name: name, Op: op, Dims: []int{2, 10}})
			}
			for _, op := range pairs {
				for _, b := range someNames {
					wantStmt(t, name+" = "+op+" "+a+" "+b, read.Stmt{Name: name, Op: op, Args: []string{a, b}})
				}
			}
			for _, op := range singles {
				wantStmt(t, name+" = "+op+" "+a, read.Stmt{Name: name, Op: op, Args: []string{a}})
			}
			for _, op := range []string{"reshape", "spread"} {
				wantStmt(t, name+" = "+op+" "+a, read.Stmt{Name: name, Op: op, Args: []string{a}})
				wantStmt(t, name+" = "+op+" "+a+" 64", read.Stmt{Name: name, Op: op, Args: []string{a}, Dims: []int{64}})
			}
			wantStmt(t, name+" = scale "+a+" -3", read.Stmt{Name: name, Op: "scale", Args: []string{a}, K: "-3"})
			wantStmt(t, name+" = power "+a+" 2", read.Stmt{Name: name, Op: "power", Args: []string{a}, N: 2})
		}
		wantStmt(t, "const "+name+" = 2/3", read.Stmt{Name: name, Op: "const", Data: []string{"2/3"}})
		wantStmt(t, "loss "+name, read.Stmt{Op: "loss", Args: []string{name}})
	}
}

// P9.1: dims are numbers of 1 or 2 digits, up to 4 of them, that are a shape; as many rationals go with them.
func TestDims(t *testing.T) {
	numbers := []string{"0", "1", "2", "3", "4", "8", "9", "16", "21", "22", "32", "33", "63", "64", "65", "99"}
	fewer := []string{"0", "1", "4"}
	lists, last := []string{""}, []string{""}
	for _, next := range [][]string{numbers, numbers, fewer, fewer, {"1"}} {
		var longer []string
		for _, list := range last {
			for _, n := range next {
				longer = append(longer, list+" "+n)
			}
		}
		lists = append(lists, longer...)
		last = longer
	}
	for _, list := range lists {
		for _, ahead := range []string{"param w", "input w", "y = reshape a", "y = spread a"} {
			wantAsDocument(t, strings.Split(ahead+list, " "))
		}
		_, size, _ := shapeByDocument(list)
		wantAsDocument(t, strings.Split("const c"+list+" ="+strings.Repeat(" 1/2", size), " "))
	}
	for n := range 1200 {
		word := strconv.Itoa(n)
		wantAsDocument(t, []string{"param", "w", word})
		wantAsDocument(t, []string{"y", "=", "spread", "a", word})
		wantAsDocument(t, []string{"param", "w", "0" + word})
		wantAsDocument(t, []string{"input", "w", "1", word, "1"})
	}
	wantNone(t, strings.Split("param w 1 1 1 1 1", " "))
	wantNone(t, strings.Split("y = reshape a 1 1 1 1 1", " "))
	wantNone(t, strings.Split("const c 1 1 1 1 1 = 1", " "))
}

// P9.1: words that are no numbers, in dims and as powers.
func TestNoNumbers(t *testing.T) {
	for _, word := range noNumbers {
		for _, ahead := range []string{"param w", "input x", "param w 2", "input x 1 1 2", "y = reshape a", "y = spread a 4", "y = power a"} {
			wantNone(t, append(strings.Split(ahead, " "), word))
		}
		wantNone(t, []string{"const", "c", word, "=", "1"})
		wantNone(t, []string{"const", "c", "1", word, "=", "1"})
		wantNone(t, []string{"param", "w", word, "2"})
	}
	for n := range 1 << 16 {
		word := string([]byte{byte(n >> 8), byte(n)})
		wantAsDocument(t, []string{"param", "w", word})
		wantAsDocument(t, []string{"param", "w", word[1:]})
		wantAsDocument(t, []string{"y", "=", "power", "a", word})
		wantAsDocument(t, []string{"y", "=", "power", "a", word[1:]})
	}
}

// P9.1: powers from 0 to MaxPower, and none beside them.
func TestPowers(t *testing.T) {
	if api.MaxPower != 6 {
		t.Fatalf("MaxPower: %d", api.MaxPower)
	}
	for n := range 7 {
		wantStmt(t, "y = power a "+strconv.Itoa(n), read.Stmt{Name: "y", Op: "power", Args: []string{"a"}, N: n})
	}
	for n := 7; n < 1100; n++ {
		wantNone(t, []string{"y", "=", "power", "a", strconv.Itoa(n)})
	}
	for _, words := range []string{"y = power a", "y = power a 2 3", "y = power a b", "y = power a b 2", "y = power 2 a", "y = power 2", "y = power a 1/2", "y = power a -1"} {
		wantNone(t, strings.Split(words, " "))
	}
}

// P9.1: rationals are layer 3's, as many as the shape's size.
func TestRationals(t *testing.T) {
	for _, k := range rationals {
		wantStmt(t, "y = scale a "+k, read.Stmt{Name: "y", Op: "scale", Args: []string{"a"}, K: k})
		wantStmt(t, "const c = "+k, read.Stmt{Name: "c", Op: "const", Data: []string{k}})
		wantStmt(t, "const c 1 3 = 1 "+k+" 0", read.Stmt{Name: "c", Op: "const", Dims: []int{1, 3}, Data: []string{"1", k, "0"}})
	}
	for _, k := range noRationals {
		wantNone(t, []string{"y", "=", "scale", "a", k})
		wantNone(t, []string{"const", "c", "=", k})
		for at := range 3 {
			words := strings.Split("const c 3 = 1 2 3", " ")
			words[4+at] = k
			wantNone(t, words)
		}
	}
	for _, dims := range []string{"", " 1", " 2", " 3", " 64", " 2 2", " 1 1 1 1", " 2 4 8", " 8 8"} {
		_, size, _ := shapeByDocument(dims)
		for count := range 67 {
			words := strings.Split("const c"+dims+" ="+strings.Repeat(" -1/2", count), " ")
			if count != size {
				wantNone(t, words)
				continue
			}
			wantAsDocument(t, words)
			if got, e := read.Parse(lex.Line{At: 1, Words: words}); e != api.OK || len(got.Data) != size {
				t.Fatalf("%d rationals of the shape%s: %d, %d", count, dims, len(got.Data), e)
			}
		}
	}
	digits := strings.Repeat("7", 1<<16)
	wantStmt(t, "const c = -"+digits, read.Stmt{Name: "c", Op: "const", Data: []string{"-" + digits}})
	wantStmt(t, "y = scale a 1/"+digits, read.Stmt{Name: "y", Op: "scale", Args: []string{"a"}, K: "1/" + digits})
	wantNone(t, []string{"y", "=", "scale", "a", "0" + digits})
}

// P9.1: names are layer 8's, wherever one stands.
func TestNoNames(t *testing.T) {
	for _, name := range noNames {
		for _, statement := range allStatements() {
			words := strings.Split(statement, " ")
			places := []int{1}
			if words[1] == "=" {
				places = []int{0, 3}
			}
			if slices.Contains(pairs, words[min(2, len(words)-1)]) && len(words) == 5 {
				places = append(places, 4)
			}
			for _, place := range places {
				changed := slices.Clone(words)
				changed[place] = name
				wantNone(t, changed)
			}
		}
	}
}

// P9.1: no operation but those of the table.
func TestNoOperations(t *testing.T) {
	for _, op := range []string{"", "=", "neg", "div", "Add", "ADD", "adds", "ad", "add ", " add", "relu2", "param", "input", "const", "loss", "a", "2", "a b", "\xff", "add\x00"} {
		for _, rest := range [][]string{nil, {"a"}, {"a", "b"}, {"a", "2"}, {"a", "1/2"}, {"a", "2", "2"}, {"2"}} {
			wantNone(t, append([]string{"y", "=", op}, rest...))
		}
	}
	for _, first := range []string{"", "=", "Param", "params", "par", "inputs", "in", "CONST", "losses", "Loss", "a", "y", "param ", " loss", "output", "add", "2"} {
		for _, rest := range []string{"w", "w 2", "w = 1", "w 2 = 1 2", "w w", "a b c"} {
			wantNone(t, append([]string{first}, strings.Split(rest, " ")...))
		}
	}
}

// P9.1: too few words, and too many, and others than the row's.
func TestWordsLeftOutAndMore(t *testing.T) {
	wantNone(t, nil)
	wantNone(t, []string{})
	more := append(slices.Concat(someNames, noNames, pairs, singles, othersMade), "1", "2", "0", "7", "1/2", "65", "==")
	for _, statement := range allStatements() {
		words := strings.Split(statement, " ")
		if want, ok := stmtByDocument(words); !ok {
			t.Fatalf("%q is no statement", statement)
		} else {
			wantStmt(t, statement, want)
		}
		for end := range words {
			wantAsDocument(t, words[:end])
			wantAsDocument(t, words[end:])
			wantAsDocument(t, slices.Delete(slices.Clone(words), end, end+1))
			for _, word := range more {
				wantAsDocument(t, slices.Insert(slices.Clone(words), end, word))
				changed := slices.Clone(words)
				changed[end] = word
				wantAsDocument(t, changed)
			}
		}
		for _, word := range more {
			wantAsDocument(t, append(slices.Clone(words), word))
		}
		for i := range words {
			for j := range i {
				turned := slices.Clone(words)
				turned[i], turned[j] = turned[j], turned[i]
				wantAsDocument(t, turned)
			}
		}
	}
	for _, words := range []string{"param", "input", "const", "loss", "=", "y", "y =", "y = add", "y = add a", "y = add a b c", "y = relu", "y = relu a b", "y = sum a 2", "y = scale a", "y = scale 1/2", "y = scale a b", "y = scale a 1 2", "y = matmul a 2",
		"y = reshape", "y = reshape 2", "y = spread a b", "y add a b", "y == add a b", "= add a b", "y = = add a b", "loss a b", "loss 2", "loss = a", "loss =", "const c", "const c 1", "const c =", "const c 2 1 2", "const c 2 = = 1 2", "const c = 2 = 1 2", "const = 1", "param w = 1", "param w 2 = 1 2", "y = const 1", "y = param w"} {
		wantNone(t, strings.Split(words, " "))
	}
}

// P9.1: any words at all are held against the table.
func TestAnyWords(t *testing.T) {
	from := &source{state: 9}
	usual := slices.Concat(someNames, pairs, singles, othersMade, leaves, rationals)
	odd := slices.Concat(noNames, noRationals, noNumbers)
	for range 100000 {
		words := make([]string, from.below(9))
		for i := range words {
			switch from.below(8) {
			case 0:
				words[i] = from.one(odd)
			case 1, 2:
				words[i] = strconv.Itoa(from.below(12))
			case 3:
				words[i] = "="
			default:
				words[i] = from.one(usual)
			}
		}
		if len(words) > 2 && from.below(2) == 0 {
			words[1] = "="
		}
		wantAsDocument(t, words)
	}
}

// P9.1: a line's number tells nothing of its statement.
func TestNumberOfLine(t *testing.T) {
	for _, at := range []int{-1 << 63, -1, 0, 1, 2, 1<<63 - 1} {
		for _, statement := range allStatements() {
			words := strings.Split(statement, " ")
			want, _ := read.Parse(lex.Line{At: 1, Words: words})
			if got, e := read.Parse(lex.Line{At: at, Words: words}); e != api.OK || !same(got, want) {
				t.Errorf("%q at %d: %+v, %d", statement, at, got, e)
			}
		}
		if got, e := read.Parse(lex.Line{At: at}); e != api.ErrForm || !reflect.DeepEqual(got, read.Stmt{}) {
			t.Errorf("no words at %d: %+v, %d", at, got, e)
		}
	}
}

// P9.1: texts of statements, in order, with lines that count for nothing.
func TestAllByHand(t *testing.T) {
	got, at, e := read.All("# all\nparam w 2\n\n  input x 2 # given\n   \ny = mul w x\ns = sum y\nloss s\n")
	want := []read.Stmt{
		{Name: "w", Op: "param", Dims: []int{2}},
		{Name: "x", Op: "input", Dims: []int{2}},
		{Name: "y", Op: "mul", Args: []string{"w", "x"}},
		{Name: "s", Op: "sum", Args: []string{"y"}},
		{Op: "loss", Args: []string{"s"}},
	}
	if e != api.OK || at != 0 || !slices.EqualFunc(got, want, same) {
		t.Errorf("All: %+v, %d, %d", got, at, e)
	}
	for _, s := range []string{"", "\n", "\n\n\n", " ", "  \n  ", "#", "# a\n#b", " # loss a"} {
		if got, at, e := read.All(s); len(got) != 0 || at != 0 || e != api.OK {
			t.Errorf("All(%q): %+v, %d, %d", s, got, at, e)
		}
	}
	// What a graph asks of names is not asked here.
	if got, at, e := read.All("loss a\nloss a\nparam a\nparam a\n"); len(got) != 4 || at != 0 || e != api.OK {
		t.Errorf("All: %+v, %d, %d", got, at, e)
	}
}

// P9.1: the first line that is no statement is told, whichever it is, and nothing else.
func TestAllOfWrongLines(t *testing.T) {
	for _, wrong := range []string{"x", "+", "loss", "param", "y = add a", "const c 2 = 1", "y = power a 7", "param w 65", "y = scale a 2/4", "= = =", "\xff", "\t", "loss a\r", "loss\ta"} {
		for lines := 1; lines <= 6; lines++ {
			for place := range lines {
				list := slices.Repeat([]string{"y = relu a"}, lines)
				list[place] = wrong
				for _, between := range []string{"\n", "\n\n", "\n# x\n  \n", " # x\n"} {
					at := 1 + place*strings.Count(between, "\n")
					for _, end := range []string{"", "\n", between + "what\n"} {
						s := strings.Join(list, between) + end
						if got, number, e := read.All(s); got != nil || number != at || e != api.ErrForm {
							t.Fatalf("All(%q): %+v, %d, %d, not %d", s, got, number, e, at)
						}
					}
				}
			}
		}
	}
}

// P9.2: a text's statements are those of its lines.
func TestAllIsOfLines(t *testing.T) {
	from := &source{state: 92}
	usual := allStatements()
	wantAll(t, strings.Join(usual, "\n"))
	for range 20000 {
		var text strings.Builder
		for range from.below(8) {
			switch from.below(12) {
			case 0:
				text.WriteString("# " + from.one(usual))
			case 1:
				text.WriteString(strings.Repeat(" ", from.below(4)))
			case 2:
				text.WriteString(from.one(usual) + " " + from.one(noNames))
			case 3:
				text.WriteString("  " + strings.ReplaceAll(from.one(usual), " ", "   ") + "  #" + from.one(noNumbers))
			default:
				text.WriteString(from.one(usual))
			}
			if from.below(20) > 0 {
				text.WriteString("\n")
			}
		}
		wantAll(t, text.String())
	}
}

// P1 and P9.2: texts of any bytes, those that part something and those of a statement often among them.
func TestAllOfAnyBytes(t *testing.T) {
	from := &source{state: 1}
	for range 50000 {
		list := make([]byte, from.below(40))
		for i := range list {
			if list[i] = byte(from.below(256)); from.below(4) > 0 {
				list[i] = "\n #=/-0123ab"[from.below(12)]
			}
		}
		wantAll(t, string(list))
	}
	for _, statement := range allStatements() {
		for i := range len(statement) {
			for n := range 256 {
				s := statement[:i] + string([]byte{byte(n)}) + statement[i+1:]
				wantAll(t, s)
				wantAsDocument(t, strings.Split(s, " "))
			}
		}
	}
}

// P1: long lines, long words and long texts are answered.
func TestLong(t *testing.T) {
	const many = 1 << 18
	long := strings.Repeat("a", many)
	for _, word := range []string{long, strings.Repeat("1", many), strings.Repeat("0", many), strings.Repeat("=", many), "-" + long, long + "/" + long} {
		for _, ahead := range []string{"", "param", "param w", "loss", "y =", "y = add", "y = add a", "y = power a", "y = spread a", "const", "const c"} {
			wantNone(t, append(strings.Fields(ahead), word))
		}
	}
	for _, word := range []string{"a", "1", "=", "", "1/2", "param"} {
		for _, ahead := range []string{"", "param w", "input w", "loss", "loss a", "y = add", "y = relu a", "y = scale a", "y = power a", "y = spread a", "const c", "const c 2 =", "const c ="} {
			wantNone(t, append(strings.Fields(ahead), slices.Repeat([]string{word}, many)...))
		}
	}
	const lines = 1 << 17
	if got, at, e := read.All(strings.Repeat("y = add a b\n", lines)); len(got) != lines || at != 0 || e != api.OK || got[lines-1].Args[1] != "b" {
		t.Errorf("%d statements, %d, %d", len(got), at, e)
	}
	if got, at, e := read.All(strings.Repeat("y = add a b\n", lines) + "y"); got != nil || at != lines+1 || e != api.ErrForm {
		t.Errorf("%d statements, %d, %d", len(got), at, e)
	}
}

// R1: what is handed in stays as it was, and what is answered shares no list with it, nor with another.
func TestListsAreNew(t *testing.T) {
	for _, statement := range allStatements() {
		words := strings.Split(statement, " ")
		l := lex.Line{At: 7, Words: words}
		got, e := read.Parse(l)
		want, _ := stmtByDocument(strings.Split(statement, " "))
		if e != api.OK || l.At != 7 || strings.Join(words, " ") != statement {
			t.Fatalf("Parse(%q): %d, %v", statement, e, l)
		}
		for i := range words {
			words[i] = "changed"
		}
		if !same(got, want) {
			t.Fatalf("%q shares its line's words: %+v", statement, got)
		}
		words = strings.Split(statement, " ")
		got, _ = read.Parse(lex.Line{At: 7, Words: words})
		for i := range got.Args {
			got.Args[i] = "changed"
		}
		for i := range got.Data {
			got.Data[i] = "changed"
		}
		_, _ = append(got.Args, "x", "y"), append(got.Data, "x", "y")
		if strings.Join(words, " ") != statement {
			t.Fatalf("%q: its words are %q", statement, words)
		}
	}
	text := strings.Join(allStatements(), "\n")
	first, _, _ := read.All(text)
	for i := range first {
		_, _, _ = append(first[i].Args, "x", "y"), append(first[i].Data, "x", "y"), append(first[i].Dims, 7, 7)
	}
	wantStatements(t, first, allStatements())
	for i := range first {
		for j := range first[i].Args {
			first[i].Args[j] = "changed"
		}
		for j := range first[i].Dims {
			first[i].Dims[j] = -1
		}
		for j := range first[i].Data {
			first[i].Data[j] = "changed"
		}
	}
	second, _, _ := read.All(text)
	wantStatements(t, second, allStatements())
}

func wantStatements(t *testing.T, got []read.Stmt, statements []string) {
	t.Helper()
	if len(got) != len(statements) {
		t.Fatalf("%d statements, not %d", len(got), len(statements))
	}
	for i, statement := range statements {
		if want, ok := stmtByDocument(strings.Split(statement, " ")); !ok || !same(got[i], want) {
			t.Fatalf("%q: %+v", statement, got[i])
		}
	}
}
