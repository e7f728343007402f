package diagram

import (
	"strconv"

	"pneumatic/api"
	"pneumatic/lexer"
	"pneumatic/stroke"
)

// waitLetter is what the line of the delays begins with.
const waitLetter = "T"

// The bytes of ends, and of ways between them.
const (
	isIn    = '_'
	isOut   = '-'
	goesOut = '/'
	goesIn  = '\\'
)

// The bytes of limit switches.
const (
	isActuated = '#'
	isFree     = '.'
)

// shapes has the byte for each way of an actuator, by where it was (in, out) and by where it is then.
var shapes = [2][2]byte{{isIn, goesOut}, {goesIn, isOut}}

// shape returns the byte for a way of an actuator, or for an end if it stays there.
func shape(before, behind bool) byte {
	return shapes[index(before)][index(behind)]
}

// index returns the place of an end in an array.
func index(out bool) int {
	if out {
		return 1
	}
	return 0
}

// endsAlong returns the ends before the first step of a sequence that was checked, and those behind each step.
func endsAlong(s api.Sequence) [][]bool {
	now := make([]bool, s.Actuators)
	l := [][]bool{now}
	for _, step := range s.Steps {
		now, _ = stroke.Apply(step, now)
		l = append(l, now)
	}
	return l
}

// actuatorLines returns a line for each actuator of a sequence that was checked, with what a function writes for each step: by its index, the byte for the way of the actuator, and that for where it is then.
func actuatorLines(s api.Sequence, write func(k int, way, end byte) string) []string {
	var lines []string
	along := endsAlong(s)
	for actuator := range s.Actuators {
		line := beginning(actuator)
		for k := range s.Steps {
			before, behind := along[k][actuator], along[k+1][actuator]
			line += write(k, shape(before, behind), shape(behind, behind))
		}
		lines = append(lines, line)
	}
	return lines
}

// beginning returns what the line of an actuator has before the first step.
func beginning(actuator int) string {
	return letter(actuator) + " " + string(isIn)
}

// letter returns the letter of an actuator.
func letter(actuator int) string {
	text, _ := stroke.Text(api.Stroke{Actuator: actuator})
	return text[:1]
}

// lengthOf returns the length of lines with so many first bytes for each step.
func lengthOf(widths []int) int {
	n := len(beginning(0))
	for _, width := range widths {
		n += width + 1
	}
	return n
}

// switchLine returns the line of a limit switch, for the ends along a sequence.
func switchLine(actuator int, out bool, along [][]bool) string {
	line := []byte(letter(actuator) + strconv.Itoa(index(out)) + " ")
	for _, now := range along {
		if now[actuator] == out {
			line = append(line, isActuated)
		} else {
			line = append(line, isFree)
		}
	}
	return string(line)
}

// waits reports whether there is a delay behind a step.
func waits(x api.Step) bool { return x.Wait != 0 }

// waitLine returns the line of the delays.
func waitLine(steps []api.Step) string {
	line := waitLetter
	for _, step := range steps {
		line += " " + strconv.Itoa(step.Wait)
	}
	return line
}

// setWaits sets the delays behind steps to those in a line.
func setWaits(steps []api.Step, line string) {
	for k, field := range lexer.Fields(line) {
		// The first field is the letter.
		if k > 0 && k <= len(steps) {
			steps[k-1].Wait, _ = lexer.Value(field)
		}
	}
}
