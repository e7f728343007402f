package diagram

import (
	"strings"

	"pneumatic/api"
)

// divided returns the lines of actuators, and the one of delays, which is empty if there is none.
func divided(lines []string) ([]string, string) {
	last := len(lines) - 1
	if last < 0 || !strings.HasPrefix(lines[last], waitLetter) {
		return lines, ""
	}
	return lines[:last], lines[last]
}

// scanned returns the sequence that lines of actuators show, if they are a diagram, and how many first bytes each step has. Otherwise it returns some sequence, which may have errors.
func scanned(lines []string) (api.Sequence, []int) {
	s := api.Sequence{Actuators: len(lines)}
	var widths []int
	for at := len(beginning(0)); ; {
		step, width := scannedStep(lines, at)
		if width == 0 {
			return s, widths
		}
		s.Steps = append(s.Steps, step)
		widths = append(widths, width)
		at += width + 1
	}
}

// scannedStep returns the step whose first bytes begin at an offset, and how many there are: none if no actuator moves there.
func scannedStep(lines []string, at int) (api.Step, int) {
	var step api.Step
	width := 0
	for actuator, line := range lines {
		first, n := run(line[min(at, len(line)):])
		if first == goesOut || first == goesIn {
			step.Strokes = append(step.Strokes, api.Stroke{Actuator: actuator, Out: first == goesOut})
			width = n
		}
	}
	return step, width
}

// run returns the first character of a text, and how often it stands there. (Of bytes that are no character the number does not matter.)
func run(text string) (rune, int) {
	var first rune
	for i, c := range text {
		if i == 0 {
			first = c
		}
		if c != first {
			return first, i
		}
	}
	return first, len(text)
}
