package netlist_test

import (
	"cmp"
	"fmt"
	"math/rand"
	"regexp"
	"slices"
	"strconv"
	"strings"
	"testing"

	"pneumatic/api"
	"pneumatic/circuit"
	"pneumatic/lexer"
	"pneumatic/netlist"
	"pneumatic/part"
)

// P23.2

// drawing has the parts of a circuit in any order, and its pipes by the names of their parts.
type drawing struct {
	parts []api.Part
	pipes [][2]string
}

// part returns the part with a name.
func (d drawing) part(name string) (api.Part, bool) {
	at := slices.IndexFunc(d.parts, func(p api.Part) bool { return p.Name == name })
	if at < 0 {
		return api.Part{}, false
	}
	return d.parts[at], true
}

// portError follows the definition of the errors of ReadPort.
func (d drawing) portError(text string) api.Errno {
	at := strings.IndexByte(text, '.')
	if at < 0 {
		return api.ErrSyntax
	}
	p, found := d.part(text[:at])
	ports, _ := part.Ports(p.Kind)
	if !found || !slices.Contains(ports, text[at+1:]) {
		return api.ErrNone
	}
	return api.OK
}

// joins reports whether there is a pipe between two ports.
func (d drawing) joins(a, b string) bool {
	return slices.Contains(d.pipes, [2]string{a, b}) || slices.Contains(d.pipes, [2]string{b, a})
}

// circuit returns the circuit in which everything is in order.
func (d drawing) circuit() api.Circuit {
	c := api.Circuit{Parts: slices.Clone(d.parts)}
	slices.SortFunc(c.Parts, func(a, b api.Part) int { return strings.Compare(a.Name, b.Name) })
	for _, x := range d.pipes {
		from, to := port(c, x[0]), port(c, x[1])
		if byOrder(from, to) > 0 {
			from, to = to, from
		}
		c.Pipes = append(c.Pipes, api.Pipe{From: from, To: to})
	}
	slices.SortFunc(c.Pipes, func(a, b api.Pipe) int { return cmp.Or(byOrder(a.From, b.From), byOrder(a.To, b.To)) })
	return c
}

func byOrder(a, b api.Port) int {
	return cmp.Or(cmp.Compare(a.Part, b.Part), cmp.Compare(a.Name, b.Name))
}

var blanks = regexp.MustCompile(" +")

// lineError follows the definition of the errors of lines, and puts into a drawing what is right.
func lineError(d *drawing, line string) api.Errno {
	words := blanks.Split(strings.Trim(line, " "), -1)
	switch {
	case words[0] == "" || words[0][0] == '#':
		return api.OK
	case words[0] == "part" && (len(words) == 3 || len(words) == 4):
		return partError(d, words)
	case words[0] == "pipe" && len(words) == 3:
		return pipeError(d, words[1], words[2])
	}
	return api.ErrSyntax
}

func partError(d *drawing, words []string) api.Errno {
	p := api.Part{Kind: -1, Name: words[1]}
	for kind := range part.Kinds {
		if word, _ := part.Word(kind); word == words[2] {
			p.Kind = kind
		}
	}
	if p.Kind < 0 {
		return api.ErrNone
	}
	if len(words) == 4 {
		if _, e := lexer.Value(words[3]); e != api.OK {
			return e
		}
		p.Delay, _ = strconv.Atoi(words[3])
	}
	if e := part.Check(p); e != api.OK {
		return e
	}
	if _, found := d.part(p.Name); found {
		return api.ErrTwice
	}
	if d.parts = append(d.parts, p); len(d.parts) > 64 {
		return api.ErrMany
	}
	return api.OK
}

func pipeError(d *drawing, a, b string) api.Errno {
	if e := cmp.Or(d.portError(a), d.portError(b)); e != api.OK {
		return e
	}
	if a == b || d.joins(a, b) {
		return api.ErrTwice
	}
	if d.pipes = append(d.pipes, [2]string{a, b}); len(d.pipes) > 256 {
		return api.ErrMany
	}
	return api.OK
}

// parsed follows the definition of Parse.
func parsed(text string) (api.Circuit, int, api.Errno) {
	if len(text) > 16384 {
		return api.Circuit{}, 0, api.ErrLong
	}
	if text != "" && text[len(text)-1] != '\n' {
		return api.Circuit{}, 0, api.ErrTorn
	}
	var d drawing
	lines := strings.SplitAfter(text, "\n")
	lines = lines[:len(lines)-1]
	for at, line := range lines {
		if e := lineError(&d, strings.TrimSuffix(line, "\n")); e != api.OK {
			return api.Circuit{}, at, e
		}
	}
	c := d.circuit()
	if e := circuit.Check(c); e != api.OK {
		return api.Circuit{}, len(lines), e
	}
	return c, 0, api.OK
}

// result is what Parse returns.
type result struct {
	at int
	e  api.Errno
}

// compare compares Parse with its definition.
func compare(t *testing.T, text string) result {
	t.Helper()
	expected, at, f := parsed(text)
	got, k, e := netlist.Parse(text)
	if !circuit.Same(got, expected) || k != at || e != f {
		t.Errorf("Parse of %q: %v, %d, %d instead of %v, %d, %d", text, got, k, e, expected, at, f)
	}
	return result{at, f}
}

func TestParseOfWrittenTexts(t *testing.T) {
	long := strings.Repeat("n", 25)
	for _, x := range []struct {
		text string
		at   int
		e    api.Errno
	}{
		{"", 0, api.OK}, {"\n", 0, api.OK}, {"\n\n\n", 0, api.OK}, {"   \n", 0, api.OK}, {"#\n", 0, api.OK}, {"# part A\n", 0, api.OK}, {"  #part A cylinder\n", 0, api.OK}, {"#\xff\n", 0, api.OK},
		{"part A cylinder", 0, api.ErrTorn}, {" ", 0, api.ErrTorn}, {"#", 0, api.ErrTorn}, {"x\ny", 0, api.ErrTorn}, {"part A cylinder\n ", 0, api.ErrTorn},
		{"part A cylinder\n", 0, api.OK}, {"  part   A  cylinder \n", 0, api.OK}, {"part A cylinder 0\n", 0, api.OK}, {"part T delay 1\n", 0, api.OK}, {"part T delay 1000000\n", 0, api.OK},
		{"Part A cylinder\n", 0, api.ErrSyntax}, {"parts A cylinder\n", 0, api.ErrSyntax}, {"A cylinder\n", 0, api.ErrSyntax}, {"part\tA cylinder\n", 0, api.ErrSyntax}, {"\tpart A cylinder\n", 0, api.ErrSyntax}, {"part # A\n", 0, api.ErrNone}, {"part A cylinder #\n", 0, api.ErrForm}, {"part A cylinder 0 #\n", 0, api.ErrSyntax}, {"\r\n", 0, api.ErrSyntax},
		{"part\n", 0, api.ErrSyntax}, {"part A\n", 0, api.ErrSyntax}, {"part T delay 5 5\n", 0, api.ErrSyntax}, {"pipe\n", 0, api.ErrSyntax}, {"pipe A.2\n", 0, api.ErrSyntax}, {"pipe A.2 A.4 A.4\n", 0, api.ErrSyntax},
		{"part A Cylinder\n", 0, api.ErrNone}, {"part A cylinder\r\n", 0, api.ErrNone}, {"part 1 x y\n", 0, api.ErrNone}, {"part A 1\n", 0, api.ErrNone},
		{"part T delay x\n", 0, api.ErrForm}, {"part 1 delay 12345678\n", 0, api.ErrLong}, {"part T delay 05\n", 0, api.ErrForm}, {"part T delay -0\n", 0, api.ErrForm}, {"part T delay -\n", 0, api.ErrForm}, {"part T delay +5\n", 0, api.ErrForm},
		{"part T delay\n", 0, api.ErrRange}, {"part T delay 0\n", 0, api.ErrRange}, {"part T delay -1\n", 0, api.ErrRange}, {"part T delay 1000001\n", 0, api.ErrRange}, {"part A cylinder 1\n", 0, api.ErrRange}, {"part A cylinder -1\n", 0, api.ErrRange}, {"part A cylinder x\n", 0, api.ErrForm},
		{"part 1 cylinder\n", 0, api.ErrForm}, {"part 1 delay\n", 0, api.ErrForm}, {"part A.2 cylinder\n", 0, api.ErrForm}, {"part " + long + " cylinder\n", 0, api.ErrLong}, {"part " + long + " delay\n", 0, api.ErrLong},
		{"part A cylinder\npart A cylinder\n", 1, api.ErrTwice}, {"part A cylinder\n\n# two\npart A supply\n", 3, api.ErrTwice}, {"part A cylinder\npart A delay\n", 1, api.ErrRange}, {"part A cylinder\npart A x\n", 1, api.ErrNone},
		{"part A0 limit\n", 1, api.ErrNone}, {"part A0 limit\n\n\n", 3, api.ErrNone}, {"part A0 limit\npart A cylinder\n", 0, api.OK}, {"part A0 limit\npart A supply\n# not for it\n", 3, api.ErrNone}, {"part A0 limit\nx\n", 1, api.ErrSyntax},
		{"part A0 limit\npipe A0.1 A0.2\npart A cylinder\n", 0, api.OK},
		{"part A cylinder\npipe A.2 A.4\n", 0, api.OK}, {"part A cylinder\npipe  A.4   A.2 \n", 0, api.OK}, {"part A cylinder\npipe A.4 A.2\npipe A.2 A.4\n", 2, api.ErrTwice}, {"part A cylinder\npipe A.2 A.4\npipe A.2 A.4\n", 2, api.ErrTwice}, {"part A cylinder\npipe A.2 A.2\n", 1, api.ErrTwice},
		{"pipe A.2 A.4\npart A cylinder\n", 0, api.ErrNone}, {"part A cylinder\npipe A.2 B.2\npart B cylinder\n", 1, api.ErrNone}, {"part A cylinder\npipe A2 B.2\n", 1, api.ErrSyntax}, {"part A cylinder\npipe B.2 A2\n", 1, api.ErrNone}, {"part A cylinder\npipe A.2 A4\n", 1, api.ErrSyntax}, {"part A cylinder\npipe A.1 A\n", 1, api.ErrNone}, {"part A cylinder\npipe A A.1\n", 1, api.ErrSyntax}, {"part A cylinder\npipe A.2. A.4\n", 1, api.ErrNone}, {"part A cylinder\npipe A.1 A.1\n", 1, api.ErrNone}, {"part A cylinder\npipe A A\n", 1, api.ErrSyntax}, {"part A cylinder\npipe . .\n", 1, api.ErrNone}, {"part A cylinder\npipe # A.2\n", 1, api.ErrSyntax},
		{"part A cylinder\nline\npart\n", 1, api.ErrSyntax},
	} {
		same(t, named("Parse", strconv.Quote(x.text)), compare(t, x.text), result{x.at, x.e})
	}
}

func TestParseOfAllLinesInAnyOrder(t *testing.T) {
	lines := []string{"part A cylinder", "part A0 limit", " part  A  supply 0 ", "part T delay 5", "part T delay", "pipe A.2 A.4", "pipe A.4  A.2", "pipe A.2 T.12", "pipe T.12 A.2", "pipe A0.2 T.12", "pipe A.2 A.2", "# pipe", ""}
	texts, seen := []string{""}, map[result]int{}
	for range 7 {
		var longer []string
		for _, text := range texts {
			x := compare(t, text)
			seen[x]++
			// What is behind a line with an error is not looked at.
			if x.e == api.OK || x.at == strings.Count(text, "\n") {
				for _, line := range lines {
					longer = append(longer, text+line+"\n")
				}
			}
		}
		texts = longer
	}
	for _, x := range []result{{0, api.OK}, {4, api.ErrNone}, {3, api.ErrNone}, {3, api.ErrTwice}, {3, api.ErrRange}} {
		same(t, named("enough of", x, seen), seen[x] > 100, true)
	}
}

// changed returns a text in which a line, a word or a byte is another one, or missing, or moved.
func changed(r *rand.Rand, text string) string {
	lines := strings.SplitAfter(text, "\n")
	at := r.Intn(len(lines))
	words := strings.Split(strings.TrimSuffix(lines[at], "\n"), " ")
	word := r.Intn(len(words))
	some := []string{"part", "pipe", "A", "A.2", "V.14", "limit", "delay", "cylinder", "5", "0", "", "#", "x", "1", "-3", "button", "A0", "A0.2"}
	join := func(words []string) string { return strings.Join(words, " ") + "\n" }
	switch r.Intn(8) {
	case 0:
		lines = slices.Delete(lines, at, at+1)
	case 1:
		other := r.Intn(len(lines))
		lines[at], lines[other] = lines[other], lines[at]
	case 2:
		lines[at] = lines[r.Intn(len(lines))]
	case 3:
		words[word] = some[r.Intn(len(some))]
		lines[at] = join(words)
	case 4:
		lines[at] = join(slices.Insert(words, r.Intn(len(words)+1), some[r.Intn(len(some))]))
	case 5:
		lines[at] = join(slices.Delete(words, word, word+1))
	case 6:
		other := r.Intn(len(words))
		words[word], words[other] = words[other], words[word]
		lines[at] = join(words)
	case 7:
		k := r.Intn(len(text) + 1)
		return text[:k] + string("A0.\n #x\xff"[r.Intn(8)]) + text[min(k+r.Intn(2), len(text)):]
	}
	return strings.Join(lines, "")
}

func TestParseOfChangedTexts(t *testing.T) {
	r, seen := rand.New(rand.NewSource(235)), map[api.Errno]int{}
	for _, c := range someCircuits(236, 400) {
		for range 20 {
			text := textOf(c)
			for range 1 + r.Intn(3) {
				text = changed(r, text)
			}
			seen[compare(t, text).e]++
		}
	}
	for _, e := range []api.Errno{api.OK, api.ErrSyntax, api.ErrNone, api.ErrForm, api.ErrRange, api.ErrTwice, api.ErrTorn} {
		same(t, named("enough of", e, seen), seen[e] > 10, true)
	}
}

func TestParseOfLongTexts(t *testing.T) {
	line := "part A cylinder\n"
	remark := "#" + strings.Repeat(" ", 16384-len(line)-2) + "\n"
	for _, x := range []struct {
		text string
		at   int
		e    api.Errno
	}{
		{remark + line, 0, api.OK}, {line + remark, 0, api.OK}, {remark + line + "\n", 0, api.ErrLong}, {" " + remark + line, 0, api.ErrLong}, {remark + "part A Cylinder\n", 1, api.ErrNone}, {line + remark[1:] + "x", 0, api.ErrTorn}, {line + remark + "x", 0, api.ErrLong}, {"x\n" + remark + line, 0, api.ErrLong}, {strings.Repeat("\n", 16384), 0, api.OK}, {strings.Repeat("x", 16384), 0, api.ErrTorn}, {strings.Repeat("x", 16385), 0, api.ErrLong}, {strings.Repeat("\n", 16381) + "x\n\n", 16381, api.ErrSyntax}, {strings.Repeat("\n", 16370) + "part A0 limit\n", 16371, api.ErrNone},
	} {
		same(t, named("Parse of bytes", len(x.text)), compare(t, x.text), result{x.at, x.e})
	}
}

func TestParseOfManyPartsAndPipes(t *testing.T) {
	text := ""
	for k := range 64 {
		text += fmt.Sprintf("part V%d valve52\n", 63-k)
	}
	same(t, "Parse", compare(t, text), result{0, api.OK})
	for line, f := range map[string]api.Errno{"part W supply": api.ErrMany, "part V0 supply": api.ErrTwice, "part W x": api.ErrNone, "part W delay": api.ErrRange, "part 1 supply": api.ErrForm} {
		same(t, named("Parse", line), compare(t, text+line+"\n"), result{64, f})
	}
	for k := range 256 {
		ends := strings.Fields([]string{"12 14", "2 12", "14 2", "5 3"}[k%4])
		text += fmt.Sprintf("pipe V%d.%s V%d.%s\n", k/4, ends[0], k/4, ends[1])
	}
	same(t, "Parse", compare(t, text+"\n#\n"), result{0, api.OK})
	for line, f := range map[string]api.Errno{"pipe V1.1 V2.1": api.ErrMany, "pipe V1.14 V1.12": api.ErrTwice, "pipe V1.1 V1.1": api.ErrTwice, "pipe V1.1 W.1": api.ErrNone, "pipe V1 V2.1": api.ErrSyntax, "part W supply": api.ErrMany} {
		same(t, named("Parse", line), compare(t, text+"\n"+line+"\n"), result{321, f})
	}
}
