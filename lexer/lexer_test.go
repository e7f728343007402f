package lexer_test

import (
	"math"
	"regexp"
	"slices"
	"strconv"
	"strings"
	"testing"

	"pneumatic/api"
	"pneumatic/lexer"
)

func same[T comparable](t *testing.T, what string, got, expected T) {
	t.Helper()
	if got != expected {
		t.Errorf("%s: %v instead of %v", what, got, expected)
	}
}

// expect compares a list and an error with those that are expected.
func expect[T comparable](t *testing.T, what string, l []T, e api.Errno, expected []T, f api.Errno) {
	t.Helper()
	if !slices.Equal(l, expected) {
		t.Errorf("%s: %v instead of %v", what, l, expected)
	}
	same(t, "error of "+what, e, f)
}

// named returns the name of a call with a text, which is cut if it is long.
func named(function, text string) string {
	if len(text) > 80 {
		return function + " " + strconv.Quote(text[:60]) + " .. of " + strconv.Itoa(len(text)) + " bytes"
	}
	return function + " " + strconv.Quote(text)
}

// signs has the signs, as the chapter tells them.
const signs = "+-*/()[]{}<>=,;:|&!#."

// The forms of words and numbers, without their limits.
var (
	wordForm   = regexp.MustCompile(`\A[A-Za-z][A-Za-z0-9_]*\z`)
	numberForm = regexp.MustCompile(`\A(0|[1-9][0-9]*)\z`)
)

// wordError is the error of Word, by the form.
func wordError(s string) api.Errno { return formError(s, wordForm, 24) }

// numberError is the error of Number, by the form.
func numberError(s string) api.Errno { return formError(s, numberForm, 7) }

func formError(s string, form *regexp.Regexp, most int) api.Errno {
	switch {
	case !form.MatchString(s):
		return api.ErrForm
	case len(s) > most:
		return api.ErrLong
	}
	return api.OK
}

// texts returns all texts of up to so many of some characters.
func texts(characters string, most int) []string {
	l := []string{""}
	for first := 0; most > 0; most-- {
		last := len(l)
		for _, s := range l[first:last] {
			for _, c := range strings.Split(characters, "") {
				l = append(l, s+c)
			}
		}
		first = last
	}
	return l
}

// oddTexts returns texts at the limits, and such that are easily taken for others.
func oddTexts() []string {
	l := []string{"wait", "if", "A", "z", "Z9", "a_b_1", "a__", "_a", "__", "9a", "a-b", "a b", " a", "a ", "a\n", "\na", "\n", " ", "\t", "a\t", "\r", "1\r\n", "a\x00", "\x00", "\xff", "a\xff", "é", "aé", "éa", "ß", "Ａ", "１", "٣", "1٣", "007", "00", "0", "01", "10", "1 0", "1_0", "1.5", "+1", "-1", "--1", "-0", "-00", "-", "- 1", "-1 ", "0x1", "1e3", "@", "[", "`", "{", "/", ":", "\"", "'", "$", "%", "?", "\\", "^", "~", "\x7f", "\x80", "9999999", "10000000", "-9999999", "-10000000", "12345678", "-12345678", "00000000", "01234567", "-0000001", "9223372036854775808", "18446744073709551617", "-9223372036854775809"}
	for _, n := range []int{6, 7, 8, 20, 23, 24, 25, 26, 4095, 4096, 4097, 5000} {
		for _, c := range []string{"a", "A", "_", "1", "9", "0", " ", "\n", "+", ";", "\xff", "é", "a1", "1a", "+a"} {
			l = append(l, strings.Repeat(c, n), "a"+strings.Repeat(c, n-1), "1"+strings.Repeat(c, n-1), strings.Repeat(c, n-1)+" ", strings.Repeat(c, n-1)+"-")
		}
	}
	for b := range 256 {
		for _, form := range []string{"x", "ax", "xa", "1x", "x1", "+x", "x+", "axa", "1x1", " x "} {
			l = append(l, strings.ReplaceAll(form, "x", string([]byte{byte(b)})))
		}
	}
	return l
}

// many returns the texts of all tests.
func many() []string {
	return append(texts("aZ_01-+ \n$", 4), oddTexts()...)
}

// P12.1

func TestConstants(t *testing.T) {
	same(t, "Signs", lexer.Signs, signs)
	same(t, "MaxFigures", lexer.MaxFigures, 7)
}

func TestWordAndNumber(t *testing.T) {
	for _, s := range many() {
		same(t, named("Word", s), lexer.Word(s), wordError(s))
		same(t, named("Number", s), lexer.Number(s), numberError(s))
	}
	for s, expected := range map[string][2]api.Errno{
		"": {api.ErrForm, api.ErrForm}, "a": {api.OK, api.ErrForm}, "A_9": {api.OK, api.ErrForm}, "_": {api.ErrForm, api.ErrForm}, "0": {api.ErrForm, api.OK}, "00": {api.ErrForm, api.ErrForm}, "9999999": {api.ErrForm, api.OK}, "10000000": {api.ErrForm, api.ErrLong},
		strings.Repeat("a", 24): {api.OK, api.ErrForm}, strings.Repeat("a", 25): {api.ErrLong, api.ErrForm}, strings.Repeat("a", 25) + "-": {api.ErrForm, api.ErrForm}, strings.Repeat("0", 8): {api.ErrForm, api.ErrForm}, strings.Repeat("1", 8) + "a": {api.ErrForm, api.ErrForm},
	} {
		same(t, named("Word", s), lexer.Word(s), expected[0])
		same(t, named("Number", s), lexer.Number(s), expected[1])
	}
}

// valueOf returns the value of a text by its digits.
func valueOf(s string) (int, api.Errno) {
	figures, sign := s, 1
	if strings.HasPrefix(s, "-") {
		figures, sign = s[1:], -1
	}
	if e := numberError(figures); e != api.OK {
		return 0, e
	}
	if s == "-0" {
		return 0, api.ErrForm
	}
	value := 0
	for _, r := range figures {
		value = 10*value + int(r-'0')
	}
	return sign * value, api.OK
}

func TestValue(t *testing.T) {
	for _, s := range many() {
		expected, f := valueOf(s)
		value, e := lexer.Value(s)
		same(t, named("Value", s), value, expected)
		same(t, named("error of Value", s), e, f)
	}
	for _, k := range []int{0, 1, 9, 10, 12, 250, 999999, 1000000, 9999999} {
		for _, n := range []int{k, -k} {
			value, e := lexer.Value(strconv.Itoa(n))
			same(t, "Value "+strconv.Itoa(n), value, n)
			same(t, "error of Value", e, api.OK)
		}
	}
	for s, f := range map[string]api.Errno{"": api.ErrForm, "-": api.ErrForm, "-0": api.ErrForm, "--1": api.ErrForm, "+1": api.ErrForm, "-a": api.ErrForm, "- 1": api.ErrForm, "-01": api.ErrForm, "1-": api.ErrForm, "12345678": api.ErrLong, "-12345678": api.ErrLong, "-1234567890123456789012": api.ErrLong} {
		value, e := lexer.Value(s)
		same(t, named("Value", s), value, 0)
		same(t, named("error of Value", s), e, f)
	}
}

func TestPosition(t *testing.T) {
	for _, s := range append(texts("a\n ", 6), "ab\ncd\n", "\n\n\n", "é\né", "\xff\n\xff", strings.Repeat("a", 4096), strings.Repeat("\n", 4096), strings.Repeat("ab\n", 1365)) {
		line, column := 0, 0
		for at := range len(s) + 1 {
			l, c, e := lexer.Position(s, at)
			same(t, named("Position "+strconv.Itoa(at), s), [2]int{l, c}, [2]int{line, column})
			same(t, named("error of Position", s), e, api.OK)
			column++
			if at < len(s) && s[at] == '\n' {
				line, column = line+1, 0
			}
		}
		for _, at := range []int{-1, len(s) + 1, math.MinInt, math.MaxInt, api.None} {
			l, c, e := lexer.Position(s, at)
			same(t, named("Position "+strconv.Itoa(at), s), [2]int{l, c}, [2]int{})
			same(t, named("error of Position", s), e, api.ErrRange)
		}
	}
	for _, s := range []string{strings.Repeat("a", 4097), strings.Repeat("\n", 5000)} {
		for _, at := range []int{0, 1, 4096, 4097, -1, 1 << 40} {
			l, c, e := lexer.Position(s, at)
			same(t, named("Position "+strconv.Itoa(at), s), [2]int{l, c}, [2]int{})
			same(t, named("error of Position", s), e, api.ErrLong)
		}
	}
}

// fieldsOf returns the parts between spaces, byte by byte.
func fieldsOf(line string) []string {
	var l []string
	start := 0
	for i := range len(line) + 1 {
		if i < len(line) && line[i] != ' ' {
			continue
		}
		if i > start {
			l = append(l, line[start:i])
		}
		start = i + 1
	}
	return l
}

func TestFields(t *testing.T) {
	for _, s := range append(many(), texts(" a", 8)...) {
		expect(t, named("Fields", s), lexer.Fields(s), api.OK, fieldsOf(s), api.OK)
	}
	// Other blanks are no spaces, nor is what Unicode calls one.
	for _, s := range []string{"a\tb", "\n", "\v\f\r", "\u00a0", "a\u2003b", "\xa0", "\x85"} {
		expect(t, named("Fields", s), lexer.Fields(" "+s+"  "+s), api.OK, []string{s, s}, api.OK)
	}
	expect(t, "Fields", lexer.Fields("  plus  ap bp "), api.OK, []string{"plus", "ap", "bp"}, api.OK)
	expect(t, "Fields", lexer.Fields(""), api.OK, nil, api.OK)
	expect(t, "Fields", lexer.Fields("   "), api.OK, nil, api.OK)
	same(t, "Fields", len(lexer.Fields(strings.Repeat("a ", 100000))), 100000)
	same(t, "Fields", len(lexer.Fields(strings.Repeat("ab", 100000))[0]), 200000)
}
