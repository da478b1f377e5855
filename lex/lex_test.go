package lex

import (
	"bytes"
	"math"
	"math/big"
	"math/rand"
	"regexp"
	"slices"
	"strconv"
	"strings"
	"sync"
	"testing"

	"dipper/api"
)

const (
	smalls   = "abcdefghijklmnopqrstuvwxyz"
	capitals = "ABCDEFGHIJKLMNOPQRSTUVWXYZ"
	digits   = "0123456789"
	ofWords  = smalls + capitals + digits + "."
	longest  = 65536
)

func words(w ...Word) []Word { return w }

func lines(l ...[]Word) [][]Word { return l }

func same(a, b [][]Word) bool { return slices.EqualFunc(a, b, slices.Equal[[]Word]) }

// wants holds Lines of s against what it should tell.
func wants(t *testing.T, s string, want [][]Word, at int, e api.Errno) {
	t.Helper()
	got, gotAt, gotE := Lines([]byte(s))
	if !same(got, want) || gotAt != at || gotE != e {
		t.Errorf("Lines(%s): %v, %d, %d, not %v, %d, %d", short(s), got, gotAt, gotE, want, at, e)
	}
}

func short(s string) string {
	if len(s) > 200 {
		s = s[:200] + " and so on"
	}
	return strconv.Quote(s)
}

// wantLines is chapter 8 in other words: the text is cut at its line feeds, the lines at their first #.
func wantLines(s string) ([][]Word, int, api.Errno) {
	if len(s) > longest {
		return nil, longest, api.ErrMany
	}
	strange := regexp.MustCompile(`[^A-Za-z0-9. \t]`)
	word := regexp.MustCompile(`[A-Za-z0-9.]+`)
	var all [][]Word
	begin := 0
	for _, line := range strings.Split(s, "\n") {
		said, _, _ := strings.Cut(line, "#")
		if at := strange.FindStringIndex(said); at != nil {
			return nil, begin + at[0], api.ErrWord
		}
		var l []Word
		for _, at := range word.FindAllStringIndex(said, -1) {
			l = append(l, Word{begin + at[0], said[at[0]:at[1]]})
		}
		if l != nil {
			all = append(all, l)
		}
		begin += len(line) + 1
	}
	return all, 0, api.OK
}

// P8.1
func TestLines(t *testing.T) {
	wants(t, "", nil, 0, api.OK)
	wants(t, "a # b", lines(words(Word{0, "a"})), 0, api.OK)
	wants(t, "a", lines(words(Word{0, "a"})), 0, api.OK)
	wants(t, "a\n", lines(words(Word{0, "a"})), 0, api.OK)
	wants(t, "\na", lines(words(Word{1, "a"})), 0, api.OK)
	wants(t, " a", lines(words(Word{1, "a"})), 0, api.OK)
	wants(t, "\ta\t", lines(words(Word{1, "a"})), 0, api.OK)
	wants(t, "a b", lines(words(Word{0, "a"}, Word{2, "b"})), 0, api.OK)
	wants(t, "a\tb", lines(words(Word{0, "a"}, Word{2, "b"})), 0, api.OK)
	wants(t, "a \t \t b", lines(words(Word{0, "a"}, Word{6, "b"})), 0, api.OK)
	wants(t, "a\nb", lines(words(Word{0, "a"}), words(Word{2, "b"})), 0, api.OK)
	wants(t, "a\n\n \n\t\n#\nb", lines(words(Word{0, "a"}), words(Word{9, "b"})), 0, api.OK)
	wants(t, "fill plate.A1 500", lines(words(Word{0, "fill"}, Word{5, "plate.A1"}, Word{14, "500"})), 0, api.OK)
	wants(t, "007 aZ9. ... .", lines(words(Word{0, "007"}, Word{4, "aZ9."}, Word{9, "..."}, Word{13, "."})), 0, api.OK)
	wants(t, "ware p 1 2 0\n round 100 1 1 # its bottom\n\nfill p.A1 5\n", lines(
		words(Word{0, "ware"}, Word{5, "p"}, Word{7, "1"}, Word{9, "2"}, Word{11, "0"}),
		words(Word{14, "round"}, Word{20, "100"}, Word{24, "1"}, Word{26, "1"}),
		words(Word{42, "fill"}, Word{47, "p.A1"}, Word{52, "5"})), 0, api.OK)
}

// P8.1: lines without words tell nothing.
func TestLinesOfNoWords(t *testing.T) {
	for _, s := range []string{" ", "\t", "\n", "\n\n\n", " \n\t\n", "#", "##", "#a", "# a b\n", " # a\n\t#!\n#", strings.Repeat("\n", longest), strings.Repeat(" ", longest), strings.Repeat("#", longest)} {
		wants(t, s, nil, 0, api.OK)
	}
}

// P8.1: comments go from # to ahead of the line's end.
func TestComments(t *testing.T) {
	a, c := words(Word{0, "a"}), words(Word{3, "c"})
	wants(t, "a#b", lines(a), 0, api.OK)
	wants(t, "a#\nc", lines(a, c), 0, api.OK)
	wants(t, "a#\n", lines(a), 0, api.OK)
	wants(t, "##\nc", lines(c), 0, api.OK)
	wants(t, "#\n c", lines(c), 0, api.OK)
	wants(t, "a#b#c d\ne # f\ng", lines(a, words(Word{8, "e"}), words(Word{14, "g"})), 0, api.OK)
	wants(t, "a # a carriage's return \r doesn't end it\nb", lines(a, words(Word{41, "b"})), 0, api.OK)
	wants(t, "a # \u2028 \u0085 \v\f b", lines(a), 0, api.OK)
	wants(t, "a # ! b\n!", nil, 8, api.ErrWord)
	wants(t, "a # ! b\n#\nc\r# d", nil, 11, api.ErrWord)
}

// P8.1: each byte, wherever it stands.
func TestLinesOfEachByte(t *testing.T) {
	for i := range 256 {
		c := string([]byte{byte(i)})
		if c == "\n" {
			wants(t, "#"+c+"b", lines(words(Word{2, "b"})), 0, api.OK)
		} else {
			wants(t, "#"+c+"b", nil, 0, api.OK)
			wants(t, "a#b"+c+"\nd", lines(words(Word{0, "a"}), words(Word{5, "d"})), 0, api.OK)
		}
		switch {
		case strings.Contains(ofWords, c):
			wants(t, c, lines(words(Word{0, c})), 0, api.OK)
			wants(t, "a"+c+"b", lines(words(Word{0, "a" + c + "b"})), 0, api.OK)
			wants(t, "a "+c+" b", lines(words(Word{0, "a"}, Word{2, c}, Word{4, "b"})), 0, api.OK)
		case c == " " || c == "\t":
			wants(t, c, nil, 0, api.OK)
			wants(t, "a"+c+"b", lines(words(Word{0, "a"}, Word{2, "b"})), 0, api.OK)
		case c == "\n":
			wants(t, "a"+c+"b", lines(words(Word{0, "a"}), words(Word{2, "b"})), 0, api.OK)
		case c == "#":
			wants(t, "a"+c+"b", lines(words(Word{0, "a"})), 0, api.OK)
		default:
			wants(t, c, nil, 0, api.ErrWord)
			wants(t, "a"+c+"b", nil, 1, api.ErrWord)
			wants(t, "a b\n"+c, nil, 4, api.ErrWord)
			wants(t, "a # b\nc "+c+" !", nil, 8, api.ErrWord)
		}
	}
}

// P8.1: of several bytes that may not be the first one is told.
func TestLinesOfStrangeBytes(t *testing.T) {
	for _, x := range []struct {
		s  string
		at int
	}{
		{"-5", 0},
		{"a\rb", 1},
		{"a\r\nb\r\n", 1},
		{"a b_c", 3},
		{"a, b; c", 1},
		{"a!#!", 1},
		{"a\n!\n?", 2},
		{"#!\n!", 3},
		{"a\u00e4", 1},
		{"a\xffb", 1},
		{"\ufeffa", 0},
		{"a\u00a0b", 1},
		{"a\u0661", 1},
		{"a\x00", 1},
		{"a\v", 1},
		{"a\f", 1},
		{"a // b", 2},
		{"(a)", 0},
	} {
		wants(t, x.s, nil, x.at, api.ErrWord)
	}
}

// P8.1: MaxText, and one byte more.
func TestLinesAsLongAsMayBe(t *testing.T) {
	long := strings.Repeat("a", longest)
	wants(t, long, lines(words(Word{0, long})), 0, api.OK)
	wants(t, strings.Repeat(" ", longest-1)+"a", lines(words(Word{longest - 1, "a"})), 0, api.OK)
	wants(t, strings.Repeat("\n", longest-1)+"a", lines(words(Word{longest - 1, "a"})), 0, api.OK)
	wants(t, "a#"+strings.Repeat("\xff", longest-2), lines(words(Word{0, "a"})), 0, api.OK)
	wants(t, strings.Repeat(" ", longest-1)+"!", nil, longest-1, api.ErrWord)
	for _, c := range []string{"a", " ", "\n", "#", "!", "\x00"} {
		wants(t, strings.Repeat(c, longest+1), nil, longest, api.ErrMany)
		wants(t, c+strings.Repeat("a", longest), nil, longest, api.ErrMany)
		wants(t, strings.Repeat("#", longest)+c, nil, longest, api.ErrMany)
		wants(t, strings.Repeat(c, 3*longest), nil, longest, api.ErrMany)
	}
}

// P8.1: as many words, as many lines as there may be.
func TestLinesOfManyWords(t *testing.T) {
	for _, gap := range []string{" ", "\n"} {
		l, at, e := Lines([]byte(strings.Repeat("a"+gap, longest/2)))
		if at != 0 || e != api.OK {
			t.Errorf("%d, %d", at, e)
		}
		flat := slices.Concat(l...)
		if len(flat) != longest/2 {
			t.Fatalf("%d words", len(flat))
		}
		for i, w := range flat {
			if w != (Word{2 * i, "a"}) {
				t.Fatalf("word %d: %v", i, w)
			}
		}
		if gap == " " && len(l) != 1 || gap == "\n" && len(l) != longest/2 {
			t.Errorf("%d lines", len(l))
		}
	}
}

// pick is a text of few kinds of bytes; the lesser odd is, the more of its bytes may not be.
func pick(r *rand.Rand, most, odd int) string {
	const often = "aZ09.a1b \t \n\n#"
	b := make([]byte, r.Intn(most+1))
	for i := range b {
		b[i] = often[r.Intn(len(often))]
		if r.Intn(odd) == 0 {
			b[i] = byte(r.Intn(256))
		}
	}
	return string(b)
}

// P8.1
func TestLinesOfMany(t *testing.T) {
	r := rand.New(rand.NewSource(1))
	told := map[api.Errno]int{}
	for range 20000 {
		s := pick(r, 60, 40)
		l, at, e := wantLines(s)
		wants(t, s, l, at, e)
		told[e]++
	}
	for range 20 {
		s := pick(r, longest+longest/2, 1000000)
		l, at, e := wantLines(s)
		wants(t, s, l, at, e)
		told[e]++
	}
	if told[api.OK] < 1000 || told[api.ErrWord] < 1000 || told[api.ErrMany] < 1 {
		t.Errorf("not all kinds were tried: %v", told)
	}
}

// P8.1: every text of a few bytes.
func TestLinesOfAllShortTexts(t *testing.T) {
	const few = "a. \n#!"
	texts := []string{""}
	for range 5 {
		var longer []string
		for _, s := range texts {
			for _, c := range few {
				longer = append(longer, s+string(c))
			}
		}
		for _, s := range longer {
			l, at, e := wantLines(s)
			wants(t, s, l, at, e)
		}
		texts = longer
	}
}

// P8.3: each word is found where it says that it stands, none stands anywhere else.
func TestWordsKnowWhereTheyStand(t *testing.T) {
	r := rand.New(rand.NewSource(2))
	many := 0
	for range 5000 {
		s := pick(r, 200, 1000)
		l, _, e := Lines([]byte(s))
		if e != api.OK {
			continue
		}
		found, last := make([]bool, len(s)), 0
		for i, line := range l {
			if len(line) == 0 {
				t.Fatalf("line %d of %s has no words", i, short(s))
			}
			for _, w := range line {
				if w.At < last || w.Text == "" || w.At+len(w.Text) > len(s) || s[w.At:w.At+len(w.Text)] != w.Text {
					t.Fatalf("of %s: %v doesn't stand there", short(s), w)
				}
				for k := range w.Text {
					found[w.At+k] = true
				}
				// another word can't touch it
				last = w.At + len(w.Text) + 1
				many++
			}
			first, end := line[0].At, line[len(line)-1].At
			if strings.Contains(s[first:end], "\n") || i > 0 && !strings.Contains(s[l[i-1][0].At:first], "\n") {
				t.Fatalf("of %s: line %d isn't one", short(s), i)
			}
		}
		comment := false
		for i, c := range []byte(s) {
			comment = c == '#' || comment && c != '\n'
			if found[i] != (!comment && strings.IndexByte(ofWords, c) >= 0) {
				t.Fatalf("of %s: byte %d is of a word: %v", short(s), i, found[i])
			}
		}
	}
	if many < 50000 {
		t.Errorf("too few words: %d", many)
	}
}

// P8.3: offsets are of the whole source, whatever stands ahead.
func TestWordsMoveWithWhatStandsAhead(t *testing.T) {
	const s = "use t1\n\ttransfer p.A1 p.B1 50\n"
	l, _, _ := Lines([]byte(s))
	for _, ahead := range []string{"", " ", "\n", "\t\n", "#\n", "# \xc3\xa4\n", strings.Repeat(" ", longest-len(s)), strings.Repeat("\n", longest-len(s)), "#" + strings.Repeat("\x00", longest-len(s)-2) + "\n"} {
		moved := make([][]Word, len(l))
		for i, line := range l {
			for _, w := range line {
				moved[i] = append(moved[i], Word{w.At + len(ahead), w.Text})
			}
		}
		wants(t, ahead+s, moved, 0, api.OK)
	}
}

// numbers are texts of numbers that are, and how much they are.
func numbers() map[string]int64 {
	all := map[string]int64{"0": 0}
	for p := int64(1); p <= 1000000000000; p *= 10 {
		for _, v := range []int64{p, p + 1, 2 * p, 5*p + 3, 9 * p, 10*p - 1} {
			if v <= 1000000000000 {
				all[strconv.FormatInt(v, 10)] = v
			}
		}
	}
	return all
}

// P8.2
func TestNumber(t *testing.T) {
	for s, want := range numbers() {
		if v, ok := Number(s); v != want || !ok {
			t.Errorf("Number(%q): %d, %v", s, v, ok)
		}
	}
	for want := range int64(100000) {
		if v, ok := Number(strconv.FormatInt(want, 10)); v != want || !ok {
			t.Fatalf("Number of %d: %d, %v", want, v, ok)
		}
	}
	r := rand.New(rand.NewSource(3))
	for range 100000 {
		want := r.Int63n(1000000000001) >> r.Intn(40)
		if v, ok := Number(strconv.FormatInt(want, 10)); v != want || !ok {
			t.Fatalf("Number of %d: %d, %v", want, v, ok)
		}
	}
}

// P8.2: what is above 10^12, however much.
func TestNumberTooGreat(t *testing.T) {
	all := []string{
		"1000000000001", "1000000000009", "1000000000010", "1000000000099", "2000000000000", "9999999999999", "10000000000000",
		"9223372036854775807", "9223372036854775808", "18446744073709551615", "18446744073709551616", "18446744073709551617",
		"18446744073709551626", "340282366920938463463374607431768211456", strings.Repeat("9", 100000), "1" + strings.Repeat("0", 100000),
	}
	// such that are little again once 64 bits have run over
	for _, bits := range []uint{32, 63, 64, 65, 128} {
		over := new(big.Int).Lsh(big.NewInt(1), bits)
		for v := range int64(20) {
			s := new(big.Int).Add(over, big.NewInt(v)).String()
			if len(s) > 13 {
				all = append(all, s)
			}
		}
	}
	for _, s := range all {
		if v, ok := Number(s); v != 0 || ok {
			t.Errorf("Number(%s): %d, %v", short(s), v, ok)
		}
	}
}

// P8.2: what is no number at all.
func TestNumberOfOthers(t *testing.T) {
	for _, s := range []string{
		"", "00", "000", "01", "007", "0000000000001", "01000000000000", strings.Repeat("0", 1000), strings.Repeat("0", 1000) + "1", "0a", "0.", "0 ",
		"a", "1a", "a1", "12345a", "1000000000000a", "10000000000000a", "-1", "+1", "-0", "1.0", "1.", ".1", ".", "1 ", " 1", "1 2", "1\n", "1\t", "1\x00", "\x001",
		"0x10", "0b1", "0o7", "1e3", "1_000", "1,000", "m3", "inf", "\u0661", "1\u0661", "\uff11", "\u00b2", "1\xff", "\xff", "A", "#1",
	} {
		if v, ok := Number(s); v != 0 || ok {
			t.Errorf("Number(%s): %d, %v", short(s), v, ok)
		}
	}
	for i := range 256 {
		c := string([]byte{byte(i)})
		if strings.Contains(digits, c) {
			continue
		}
		for _, s := range []string{c, c + "1", "1" + c, "1" + c + "2", "0" + c, "999999999999" + c} {
			if v, ok := Number(s); v != 0 || ok {
				t.Errorf("Number(%q): %d, %v", s, v, ok)
			}
		}
	}
}

// P8.2: every text of digits, as long as a number or a little longer, is one just if it is written as strconv writes it.
func TestNumberOfDigits(t *testing.T) {
	r := rand.New(rand.NewSource(4))
	right := 0
	for range 200000 {
		b := make([]byte, r.Intn(16))
		for i := range b {
			b[i] = "0000123456789"[r.Intn(13)]
		}
		s := string(b)
		want, err := strconv.ParseInt(s, 10, 64)
		is := err == nil && strconv.FormatInt(want, 10) == s && want <= 1000000000000
		if !is {
			want = 0
		} else {
			right++
		}
		if v, ok := Number(s); v != want || ok != is {
			t.Fatalf("Number(%q): %d, %v", s, v, ok)
		}
	}
	if right < 10000 {
		t.Errorf("too few were numbers: %d", right)
	}
}

// P8.2
func TestName(t *testing.T) {
	for _, x := range []struct {
		s    string
		want bool
	}{
		{"", false},
		{"a", true},
		{"z", true},
		{"m3", true},
		{"plate", true},
		{"use", true},
		{"a0", true},
		{"a007", true},
		{"z9z", true},
		{"0", false},
		{"9a", false},
		{"12", false},
		{"A", false},
		{"Aa", false},
		{"aB", false},
		{".", false},
		{".a", false},
		{"a.", false},
		{"p.a1", false},
		{"a b", false},
		{" a", false},
		{"a ", false},
		{"a_b", false},
		{"a-b", false},
		{"a\n", false},
		{"a#", false},
		{"\u00e4", false},
		{"a\u00e4", false},
		{"a\u0661", false},
		{"\uff41", false},
		{"a\xff", false},
		{"abcdefghijklmno", true},
		{"abcdefghijklmnop", true},
		{"abcdefghijklmnopq", false},
		{"a234567890123456", true},
		{"a2345678901234567", false},
		{"abcdefghijklmnoP", false},
		{"1bcdefghijklmnop", false},
		{strings.Repeat("a", 100000), false},
	} {
		if got := Name(x.s); got != x.want {
			t.Errorf("Name(%s): %v", short(x.s), got)
		}
	}
}

// P8.2: names of each length.
func TestNameOfEachLength(t *testing.T) {
	for n := range 300 {
		want := n >= 1 && n <= 16
		for _, s := range []string{strings.Repeat("z", n), ("a" + strings.Repeat("9", 300))[:n]} {
			if got := Name(s); got != want {
				t.Errorf("Name(%q): %v", s, got)
			}
		}
	}
}

// P8.2: each byte at each place of a name.
func TestNameOfEachByte(t *testing.T) {
	for i := range 256 {
		c := string([]byte{byte(i)})
		first, later := strings.Contains(smalls, c), strings.Contains(smalls+digits, c)
		if Name(c) != first || Name(c+"a") != first || Name(c+"0") != first {
			t.Errorf("Name, %q first: %v", c, !first)
		}
		for k := 1; k < 16; k++ {
			s := "abcdefghijklmnop"
			if got := Name(s[:k] + c + s[k+1:]); got != later {
				t.Errorf("Name, %q behind %d: %v", c, k, got)
			}
		}
	}
}

// P8.2: nothing is a name and a number; neither is anything that isn't a word.
func TestNamesAndNumbersAreWords(t *testing.T) {
	r := rand.New(rand.NewSource(5))
	name, number := regexp.MustCompile(`^[a-z][a-z0-9]{0,15}$`), regexp.MustCompile(`^(0|[1-9][0-9]{0,11}|1000000000000)$`)
	names, nums := 0, 0
	for range 50000 {
		s := pick(r, 5, 50)
		_, isNumber := Number(s)
		isName := Name(s)
		// $ of regexp, without m, is the text's end alone
		if isName != name.MatchString(s) || isNumber != number.MatchString(s) || isName && isNumber {
			t.Fatalf("%q: name %v, number %v", s, isName, isNumber)
		}
		if isName || isNumber {
			wants(t, s, lines(words(Word{0, s})), 0, api.OK)
		}
		if isName {
			names++
		}
		if isNumber {
			nums++
		}
	}
	if names < 1000 || nums < 1000 {
		t.Errorf("too few: %d names, %d numbers", names, nums)
	}
}

// P8.1, and DOC.md's third rule: bytes aren't changed, those behind them count for nothing, and none is kept.
func TestBytesAreLeftAlone(t *testing.T) {
	whole := []byte("ab c # d\n e1!#behind")
	before := bytes.Clone(whole)
	want := lines(words(Word{0, "ab"}, Word{3, "c"}), words(Word{10, "e1"}))
	got, at, e := Lines(whole[:12])
	if !same(got, want) || at != 0 || e != api.OK {
		t.Errorf("with bytes behind: %v, %d, %d", got, at, e)
	}
	if !bytes.Equal(whole, before) {
		t.Errorf("%q was changed: %q", before, whole)
	}
	for i := range whole {
		whole[i] = '!'
	}
	if !same(got, want) {
		t.Errorf("the answer changes with the bytes: %v", got)
	}
}

// P8.1, and DOC.md's third rule: what is answered is new, no list of it behind another.
func TestAnswersAreNew(t *testing.T) {
	const s = "a b\nc\nd e f\ng"
	want, _, _ := wantLines(s)
	first, _, _ := Lines([]byte(s))
	second, _, _ := Lines([]byte(s))
	for i := range first {
		grown := append(first[i], Word{77, "x"}, Word{78, "y"})
		grown[len(grown)-1].At++
	}
	if !same(first, want) {
		t.Errorf("a line grew into another: %v", first)
	}
	for i := range first {
		first[i][0] = Word{99, "z"}
		first[i] = nil
	}
	if !same(second, want) {
		t.Errorf("two answers share: %v", second)
	}
}

// P8.1, and DOC.md's second rule: nil and nothing are the same.
func TestNoBytes(t *testing.T) {
	for _, b := range [][]byte{nil, {}, make([]byte, 0, 10), []byte("!!")[:0]} {
		if l, at, e := Lines(b); len(l) != 0 || at != 0 || e != api.OK {
			t.Errorf("%v, %d, %d", l, at, e)
		}
	}
}

// tell is much that is answered of s.
func tell(s string) string {
	var text []byte
	l, at, e := Lines([]byte(s))
	text = strconv.AppendInt(text, int64(at), 10)
	text = strconv.AppendInt(append(text, ' '), int64(e), 10)
	for _, line := range l {
		text = append(text, '\n')
		for _, w := range line {
			v, ok := Number(w.Text)
			text = strconv.AppendInt(append(text, ' '), int64(w.At), 10)
			text = strconv.AppendInt(append(text, ' '), v, 10)
			text = strconv.AppendBool(strconv.AppendBool(text, ok), Name(w.Text))
			text = append(text, w.Text...)
		}
	}
	return string(text)
}

// P8.1, P8.2, and DOC.md's eighth rule: the answers hang on the arguments alone, asked again, by many at once.
func TestSameAgain(t *testing.T) {
	r := rand.New(rand.NewSource(6))
	for range 200 {
		s := pick(r, 500, 2000)
		told := tell(s)
		var all sync.WaitGroup
		got := make([]string, 4)
		for i := range got {
			all.Go(func() { got[i] = tell(s) })
		}
		all.Wait()
		for _, text := range append(got, tell(s), tell(strings.Clone(s))) {
			if text != told {
				t.Errorf("%s isn't the same again", short(s))
			}
		}
	}
}

// The limits that the tests count with are package api's.
func TestLimits(t *testing.T) {
	if api.MaxText != longest || api.MaxName != 16 || api.ErrMany != 27 || api.ErrWord != 24 || math.MaxInt64 < 10*most+9 {
		t.Error("other limits")
	}
}

// FuzzLines holds any bytes against chapter 8 in other words.
func FuzzLines(f *testing.F) {
	for _, s := range []string{"", "a # b", "a\n\n b.1\t9 #\xff\n", "a\r\n", "m3"} {
		f.Add(s)
	}
	name := regexp.MustCompile(`^[a-z][a-z0-9]{0,15}$`)
	f.Fuzz(func(t *testing.T, s string) {
		l, at, e := wantLines(s)
		wants(t, s, l, at, e)
		if v, ok := Number(s); ok && strconv.FormatInt(v, 10) != s || !ok && v != 0 {
			t.Errorf("Number(%q): %d, %v", s, v, ok)
		}
		if got := Name(s); got != name.MatchString(s) {
			t.Errorf("Name(%q): %v", s, got)
		}
	})
}
