package lexer_test

import (
	"math"
	"math/rand"
	"regexp"
	"slices"
	"strconv"
	"strings"
	"testing"

	"pneumatic/api"
	"pneumatic/lexer"
)

// P12.2

func word(s string) api.Token   { return api.Token{Kind: api.TokenWord, Text: s} }
func number(s string) api.Token { return api.Token{Kind: api.TokenNumber, Text: s} }
func sign(s string) api.Token   { return api.Token{Kind: api.TokenSign, Text: s} }
func end() api.Token            { return api.Token{Kind: api.TokenEnd} }

// at returns a token at an offset.
func at(t api.Token, offset int) api.Token {
	t.At = offset
	return t
}

// The beginnings of texts, as far as a token goes; the blanks come before.
var (
	blanks     = regexp.MustCompile(`\A[ \n]*`)
	wordStart  = regexp.MustCompile(`\A[A-Za-z][A-Za-z0-9_]*`)
	digitStart = regexp.MustCompile(`\A[0-9]+`)
)

// scanned returns the tokens of a text by the definition, or an offset and an error.
func scanned(text string) ([]api.Token, int, api.Errno) {
	if len(text) > 4096 {
		return nil, 0, api.ErrLong
	}
	var l []api.Token
	for offset := 0; ; {
		offset += len(blanks.FindString(text[offset:]))
		rest := text[offset:]
		if rest == "" {
			return append(l, at(end(), offset)), 0, api.OK
		}
		next, e := sign(rest[:1]), api.OK
		if s := wordStart.FindString(rest); s != "" {
			next, e = word(s), wordError(s)
		} else if s := digitStart.FindString(rest); s != "" {
			next, e = number(s), numberError(s)
		} else if !strings.Contains(signs, rest[:1]) {
			e = api.ErrSyntax
		}
		if e != api.OK {
			return nil, offset, e
		}
		l = append(l, at(next, offset))
		offset += len(next.Text)
	}
}

func TestScan(t *testing.T) {
	for _, s := range many() {
		expected, offset, f := scanned(s)
		l, k, e := lexer.Scan(s)
		expect(t, named("Scan", s), l, e, expected, f)
		same(t, named("offset of Scan", s), k, offset)
	}
}

func TestScanOfRandomTexts(t *testing.T) {
	r := rand.New(rand.NewSource(121))
	parts := []string{"a", "wait", "A", "+", "-", "{", "}", ";", "250", "0", "7", " ", "\n", "  ", "_", "x_1", strings.Repeat("b", 24), "1234567", "#", "."}
	for range 20000 {
		s := ""
		for range r.Intn(12) {
			s += parts[r.Intn(len(parts))]
		}
		if r.Intn(6) == 0 {
			k := r.Intn(len(s) + 1)
			s = s[:k] + []string{"$", "\t", "_", "00", "é", "\xff", strings.Repeat("c", 25), "87654321"}[r.Intn(8)] + s[k:]
		}
		expected, offset, f := scanned(s)
		l, k, e := lexer.Scan(s)
		expect(t, named("Scan", s), l, e, expected, f)
		same(t, named("offset of Scan", s), k, offset)
	}
}

func TestErrorsOfScan(t *testing.T) {
	long := strings.Repeat("a", 25)
	for _, x := range []struct {
		text   string
		offset int
		e      api.Errno
	}{
		{"a 007", 2, api.ErrForm}, {"a $", 2, api.ErrSyntax}, {"$", 0, api.ErrSyntax}, {"_a", 0, api.ErrSyntax}, {"1_", 1, api.ErrSyntax}, {"a\tb", 1, api.ErrSyntax}, {"a\r\n", 1, api.ErrSyntax}, {"é", 0, api.ErrSyntax}, {"aé", 1, api.ErrSyntax}, {"a+\x00", 2, api.ErrSyntax}, {"\xff", 0, api.ErrSyntax},
		{"00", 0, api.ErrForm}, {"a+00000000", 2, api.ErrForm}, {"12345678", 0, api.ErrLong}, {"+12345678a", 1, api.ErrLong}, {long, 0, api.ErrLong}, {"a; " + long + "$", 3, api.ErrLong}, {"$ " + long, 0, api.ErrSyntax}, {"01 $", 0, api.ErrForm}, {"\n\n01", 2, api.ErrForm},
		{strings.Repeat("a", 4096), 0, api.ErrLong}, {strings.Repeat(" ", 4095) + "$", 4095, api.ErrSyntax}, {strings.Repeat(" ", 4097), 0, api.ErrLong}, {strings.Repeat("$", 4097), 0, api.ErrLong}, {strings.Repeat(" ", 4096) + "$", 0, api.ErrLong},
	} {
		l, k, e := lexer.Scan(x.text)
		expect(t, named("Scan", x.text), l, e, nil, x.e)
		same(t, named("offset of Scan", x.text), k, x.offset)
	}
}

func TestJoin(t *testing.T) {
	// Every two, and every three tokens, with and without the end.
	some := []api.Token{word("a"), word("Z_9"), number("0"), number("250"), sign("+"), sign("-"), sign(".")}
	var lists [][]api.Token
	lists = append(lists, nil)
	for _, a := range some {
		lists = append(lists, []api.Token{a})
		for _, b := range some {
			lists = append(lists, []api.Token{a, b})
			for _, c := range some {
				lists = append(lists, []api.Token{a, b, c})
			}
		}
	}
	for _, l := range lists {
		expected := ""
		for i, x := range l {
			if i > 0 && x.Kind != api.TokenSign && l[i-1].Kind != api.TokenSign {
				expected += " "
			}
			expected += x.Text
		}
		for _, tokens := range [][]api.Token{l, append(slices.Clone(l), end())} {
			text, e := lexer.Join(tokens)
			same(t, named("Join", expected), text, expected)
			same(t, named("error of Join", expected), e, api.OK)
		}
	}
}

func TestOffsetsDoNotMatterToJoin(t *testing.T) {
	l := []api.Token{at(word("a"), -5), at(number("1"), math.MaxInt), at(sign("+"), math.MinInt), at(end(), api.None)}
	text, e := lexer.Join(l)
	same(t, "Join", text, "a 1+")
	same(t, "error of Join", e, api.OK)
}

func TestErrorsOfJoin(t *testing.T) {
	kind := func(k int, text string) api.Token { return api.Token{Kind: k, Text: text} }
	long, figures := strings.Repeat("a", 25), "12345678"
	for _, x := range []struct {
		l []api.Token
		e api.Errno
	}{
		{[]api.Token{kind(-1, "a")}, api.ErrArg}, {[]api.Token{kind(4, "")}, api.ErrArg}, {[]api.Token{kind(math.MaxInt, "+")}, api.ErrArg}, {[]api.Token{kind(math.MinInt, "")}, api.ErrArg}, {[]api.Token{kind(api.None, "1")}, api.ErrArg},
		{[]api.Token{word("")}, api.ErrForm}, {[]api.Token{word("1")}, api.ErrForm}, {[]api.Token{word("+")}, api.ErrForm}, {[]api.Token{word("a b")}, api.ErrForm}, {[]api.Token{word("_")}, api.ErrForm}, {[]api.Token{word(long)}, api.ErrLong}, {[]api.Token{word(long + "-")}, api.ErrForm},
		{[]api.Token{number("")}, api.ErrForm}, {[]api.Token{number("a")}, api.ErrForm}, {[]api.Token{number("01")}, api.ErrForm}, {[]api.Token{number("-1")}, api.ErrForm}, {[]api.Token{number(figures)}, api.ErrLong}, {[]api.Token{number("0" + figures)}, api.ErrForm},
		{[]api.Token{sign("")}, api.ErrForm}, {[]api.Token{sign("++")}, api.ErrForm}, {[]api.Token{sign("+-")}, api.ErrForm}, {[]api.Token{sign("a")}, api.ErrForm}, {[]api.Token{sign(" ")}, api.ErrForm}, {[]api.Token{sign("\n")}, api.ErrForm}, {[]api.Token{sign("_")}, api.ErrForm}, {[]api.Token{sign("$")}, api.ErrForm}, {[]api.Token{sign("é")}, api.ErrForm}, {[]api.Token{sign("\xff")}, api.ErrForm}, {[]api.Token{sign("1")}, api.ErrForm}, {[]api.Token{sign("\x00")}, api.ErrForm},
		{[]api.Token{kind(api.TokenEnd, " ")}, api.ErrForm}, {[]api.Token{kind(api.TokenEnd, "a")}, api.ErrForm}, {[]api.Token{word("a"), kind(api.TokenEnd, "\n")}, api.ErrForm},
		{[]api.Token{end(), end()}, api.ErrOrder}, {[]api.Token{end(), word("a")}, api.ErrOrder}, {[]api.Token{kind(api.TokenEnd, "a"), end()}, api.ErrOrder}, {[]api.Token{word("a"), end(), sign("+"), end()}, api.ErrOrder},
		// The first token with an error counts.
		{[]api.Token{word("1"), kind(7, "")}, api.ErrForm}, {[]api.Token{kind(7, ""), word("1")}, api.ErrArg}, {[]api.Token{end(), word("1")}, api.ErrOrder}, {[]api.Token{word(long), end(), end()}, api.ErrLong}, {[]api.Token{sign("a"), word(long)}, api.ErrForm}, {[]api.Token{number(figures), sign("a")}, api.ErrLong}, {[]api.Token{word("a"), number("1"), sign("="), kind(9, "x")}, api.ErrArg},
	} {
		text, e := lexer.Join(x.l)
		same(t, "Join", text, "")
		same(t, "error of Join of "+strconv.Itoa(len(x.l))+" tokens", e, x.e)
	}
}

func TestEachSignIsJoined(t *testing.T) {
	for b := range 256 {
		s := string([]byte{byte(b)})
		expected, f := "", api.ErrForm
		if strings.Contains(signs, s) {
			expected, f = s, api.OK
		}
		text, e := lexer.Join([]api.Token{sign(s)})
		same(t, named("Join", s), text, expected)
		same(t, named("error of Join", s), e, f)
	}
}

func TestJoinOfManyTokens(t *testing.T) {
	plus := func(n int, behind ...api.Token) []api.Token {
		return append(slices.Repeat([]api.Token{sign("+")}, n), behind...)
	}
	// 24 bytes and a space 164 times, but for the last space, are 4099.
	words := slices.Repeat([]api.Token{word(strings.Repeat("w", 24))}, 164)
	shorter := append(slices.Clone(words[:163]), word(strings.Repeat("w", 21)))
	for _, x := range []struct {
		l      []api.Token
		length int
		e      api.Errno
	}{
		{plus(4095), 4095, api.OK}, {plus(4096), 4096, api.OK}, {plus(4095, end()), 4095, api.OK}, {plus(4096, end()), 4096, api.OK}, {plus(4097), 0, api.ErrLong}, {plus(4097, end()), 0, api.ErrMany}, {plus(4098), 0, api.ErrMany}, {plus(9999), 0, api.ErrMany},
		{plus(4096, sign("a")), 0, api.ErrForm}, {plus(4097, sign("a")), 0, api.ErrMany}, {slices.Repeat([]api.Token{{Kind: 9}}, 4098), 0, api.ErrMany}, {slices.Repeat([]api.Token{{Kind: 9}}, 4097), 0, api.ErrArg},
		{plus(4095, word("a")), 4096, api.OK}, {plus(4095, word("ab")), 0, api.ErrLong}, {plus(4093, word("a"), word("b")), 4096, api.OK}, {plus(4094, word("a"), number("1")), 0, api.ErrLong},
		{words, 0, api.ErrLong}, {shorter, 4096, api.OK}, {append(slices.Clone(shorter), end()), 4096, api.OK}, {append(slices.Clone(words), word("")), 0, api.ErrForm},
	} {
		text, e := lexer.Join(x.l)
		same(t, "Join of "+strconv.Itoa(len(x.l))+" tokens", len(text), x.length)
		same(t, "error of Join of "+strconv.Itoa(len(x.l))+" tokens", e, x.e)
	}
}

// linesOf returns the lines of a text, byte by byte.
func linesOf(text string) ([]string, api.Errno) {
	var l []string
	start := 0
	for i := range len(text) {
		if text[i] == '\n' {
			l = append(l, text[start:i])
			start = i + 1
		}
	}
	if start < len(text) {
		return nil, api.ErrTorn
	}
	return l, api.OK
}

func TestLines(t *testing.T) {
	for _, s := range append(texts("a\n ", 7), many()...) {
		expected, f := linesOf(s)
		l, e := lexer.Lines(s)
		expect(t, named("Lines", s), l, e, expected, f)
	}
	for s, expected := range map[string][]string{"": nil, "\n": {""}, "\n\n": {"", ""}, "ab\ncd\n": {"ab", "cd"}, "a\r\n": {"a\r"}, "\xff\n\xfe\n": {"\xff", "\xfe"}} {
		l, e := lexer.Lines(s)
		expect(t, named("Lines", s), l, e, expected, api.OK)
	}
	for _, s := range []string{"a", "a\nb", "\na", " ", "\r"} {
		l, e := lexer.Lines(s)
		expect(t, named("Lines", s), l, e, nil, api.ErrTorn)
	}
	l, e := lexer.Lines(strings.Repeat("abc\n", 50000))
	same(t, "Lines", len(l), 50000)
	same(t, "error of Lines", e, api.OK)
}

func TestUnlines(t *testing.T) {
	for _, x := range []struct {
		l    []string
		text string
		e    api.Errno
	}{
		{nil, "", api.OK}, {[]string{}, "", api.OK}, {[]string{""}, "\n", api.OK}, {[]string{"", ""}, "\n\n", api.OK}, {[]string{"ab", "cd"}, "ab\ncd\n", api.OK}, {[]string{" a ", "\t", "\r"}, " a \n\t\n\r\n", api.OK}, {[]string{"\xff", "é"}, "\xff\né\n", api.OK},
		{[]string{"\n"}, "", api.ErrForm}, {[]string{"a\n"}, "", api.ErrForm}, {[]string{"a", "b\n", "c"}, "", api.ErrForm}, {[]string{"a", "b", "\nc"}, "", api.ErrForm}, {[]string{"a\nb", "c"}, "", api.ErrForm},
	} {
		text, e := lexer.Unlines(x.l)
		same(t, "Unlines "+strconv.Quote(x.text), text, x.text)
		same(t, "error of Unlines "+strconv.Quote(x.text), e, x.e)
	}
	text, e := lexer.Unlines(slices.Repeat([]string{"abc"}, 50000))
	same(t, "Unlines", text, strings.Repeat("abc\n", 50000))
	same(t, "error of Unlines", e, api.OK)
}

func TestExamplesOfTheDocument(t *testing.T) {
	l, k, e := lexer.Scan("A+ wait 250;")
	expect(t, "Scan", l, e, []api.Token{at(word("A"), 0), at(sign("+"), 1), at(word("wait"), 3), at(number("250"), 8), at(sign(";"), 11), at(end(), 12)}, api.OK)
	same(t, "Scan", k, 0)
	text, e := lexer.Join(l)
	same(t, "Join", text, "A+wait 250;")
	same(t, "error of Join", e, api.OK)
	value, e := lexer.Value("-12")
	same(t, "Value", value, -12)
	same(t, "error of Value", e, api.OK)
	_, e = lexer.Value("12345678")
	same(t, "error of Value", e, api.ErrLong)
	line, column, e := lexer.Position("ab\ncd\n", 4)
	same(t, "Position", [2]int{line, column}, [2]int{1, 1})
	same(t, "error of Position", e, api.OK)
}

// P12.3

func TestTokensStandInTheText(t *testing.T) {
	for _, s := range many() {
		l, _, e := lexer.Scan(s)
		if e != api.OK {
			continue
		}
		behind := 0
		for i, x := range l {
			same(t, named("between tokens of", s), strings.Trim(s[behind:x.At], " \n"), "")
			behind = x.At + len(x.Text)
			same(t, named("token of", s), s[x.At:behind], x.Text)
			same(t, named("end of", s), x.Kind == api.TokenEnd, i == len(l)-1)
		}
		same(t, named("end of", s), behind, len(s))
	}
}

func TestTheTextOfTokensHasTheSameTokens(t *testing.T) {
	withoutOffsets := func(l []api.Token) []api.Token {
		var k []api.Token
		for _, x := range l {
			k = append(k, at(x, 0))
		}
		return k
	}
	for _, s := range many() {
		l, _, e := lexer.Scan(s)
		if e != api.OK {
			continue
		}
		text, e := lexer.Join(l)
		if e == api.ErrLong {
			// Numbers before words need spaces that the text may be without.
			same(t, named("length of", s), len(s) > 4096-len(l), true)
			continue
		}
		same(t, named("error of Join", s), e, api.OK)
		again, _, e := lexer.Scan(text)
		expect(t, named("Scan", text), withoutOffsets(again), e, withoutOffsets(l), api.OK)
		same2, e := lexer.Join(again)
		same(t, named("Join", text), same2, text)
		same(t, named("error of Join", text), e, api.OK)
	}
}

func TestLinesArePutTogetherAgain(t *testing.T) {
	for _, s := range append(texts("a\n ", 7), many()...) {
		l, e := lexer.Lines(s)
		if e != api.OK {
			same(t, named("error of Lines", s), strings.HasSuffix(s, "\n") || s == "", false)
			continue
		}
		text, e := lexer.Unlines(l)
		same(t, named("Unlines", s), text, s)
		same(t, named("error of Unlines", s), e, api.OK)
	}
	for _, l := range [][]string{nil, {""}, {"", ""}, {"a", "", " b "}, {"é", "\xff"}} {
		text, e := lexer.Unlines(l)
		same(t, "error of Unlines", e, api.OK)
		again, e := lexer.Lines(text)
		expect(t, named("Lines", text), again, e, l, api.OK)
	}
}

func TestAnOffsetIsTheSumOfLinesAndItsColumn(t *testing.T) {
	for _, s := range append(texts("a\n ", 6), "\xff\né\n", strings.Repeat("abc\n\n", 800)) {
		parts := strings.SplitAfter(s, "\n")
		for k := range len(s) + 1 {
			line, column, e := lexer.Position(s, k)
			same(t, named("error of Position", s), e, api.OK)
			sum := column
			for _, part := range parts[:line] {
				sum += len(part)
			}
			same(t, named("Position "+strconv.Itoa(k), s), sum, k)
			same(t, named("Position "+strconv.Itoa(k), s), column <= len(parts[line]), true)
		}
	}
}

// P1, and the rules of all layers about memory

func TestArgumentsAndResultsAreNotShared(t *testing.T) {
	tokens := []api.Token{word("a"), number("1"), end()}
	lines := []string{"a", "b"}
	kept, keptLines := slices.Clone(tokens), slices.Clone(lines)
	for range 2 {
		text, _ := lexer.Join(tokens)
		same(t, "Join", text, "a 1")
		text, _ = lexer.Unlines(lines)
		same(t, "Unlines", text, "a\nb\n")
		l, _, e := lexer.Scan("a 1")
		expect(t, "Scan", l, e, []api.Token{word("a"), at(number("1"), 2), at(end(), 3)}, api.OK)
		whole := l[:cap(l)]
		for i := range whole {
			whole[i] = sign("$")
		}
		parts, e := lexer.Lines("a\nb\n")
		expect(t, "Lines", parts, e, lines, api.OK)
		fields := lexer.Fields("a b")
		expect(t, "Fields", fields, api.OK, lines, api.OK)
		clear(parts[:cap(parts)])
		clear(fields[:cap(fields)])
	}
	expect(t, "argument", tokens, api.OK, kept, api.OK)
	expect(t, "argument", lines, api.OK, keptLines, api.OK)
}
