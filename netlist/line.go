package netlist

import (
	"iter"
	"strconv"
	"strings"

	"pneumatic/api"
	"pneumatic/lexer"
	"pneumatic/part"
)

// The first words of lines, what is between words, and what is between the names of a part and of its port.
const (
	partWord = "part"
	pipeWord = "pipe"
	remark   = "#"
	blank    = " "
	dot      = "."
)

// portText returns the text of a port of a circuit.
func portText(c api.Circuit, p api.Port) string {
	return c.Parts[p.Part].Name + dot + p.Name
}

// linesOf returns the lines of a circuit.
func linesOf(c api.Circuit) []string {
	var l []string
	for _, p := range c.Parts {
		word, _ := part.Word(p.Kind)
		words := []string{partWord, p.Name, word}
		if p.Kind == part.Delay {
			words = append(words, strconv.Itoa(p.Delay))
		}
		l = append(l, strings.Join(words, blank))
	}
	for _, x := range c.Pipes {
		words := []string{pipeWord, portText(c, x.From), portText(c, x.To)}
		l = append(l, strings.Join(words, blank))
	}
	return l
}

// read reads lines into a plan, and yields the index and the error of each one.
func (p plan) read(lines []string) iter.Seq2[int, api.Errno] {
	readers := map[string]func(words []string) api.Errno{
		partWord: p.readPart,
		pipeWord: p.readPipe,
	}
	return func(yield func(at int, e api.Errno) bool) {
		for at, line := range lines {
			if !yield(at, readLine(readers, line)) {
				return
			}
		}
	}
}

// readLine reads a line by the reader for its first word.
func readLine(readers map[string]func(words []string) api.Errno, line string) api.Errno {
	words := lexer.Fields(line)
	if len(words) == 0 || strings.HasPrefix(words[0], remark) {
		return api.OK
	}
	reader, known := readers[words[0]]
	if !known {
		return api.ErrSyntax
	}
	return reader(words[1:])
}

// readPart adds the part with a name, the word of its kind, and perhaps a delay.
func (p plan) readPart(words []string) api.Errno {
	if len(words) != 2 && len(words) != 3 {
		return api.ErrSyntax
	}
	kind, e := part.Kind(words[1])
	if e != api.OK {
		return e
	}
	x := api.Part{Kind: kind, Name: words[0]}
	if len(words) == 3 {
		if x.Delay, e = lexer.Value(words[2]); e != api.OK {
			return e
		}
	}
	if e := part.Check(x); e != api.OK {
		return e
	}
	if _, found := p.parts[x.Name]; found {
		return api.ErrTwice
	}
	if len(p.parts) == api.MaxParts {
		return api.ErrMany
	}
	p.parts[x.Name] = x
	return api.OK
}

// readPipe adds the pipe between two ports.
func (p plan) readPipe(words []string) api.Errno {
	if len(words) != 2 {
		return api.ErrSyntax
	}
	a, e := p.port(words[0])
	if e != api.OK {
		return e
	}
	b, e := p.port(words[1])
	if e != api.OK {
		return e
	}
	x := between(a, b)
	if a == b || p.pipes[x] {
		return api.ErrTwice
	}
	if len(p.pipes) == api.MaxPipes {
		return api.ErrMany
	}
	p.pipes[x] = true
	return api.OK
}
