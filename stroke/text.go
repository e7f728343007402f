package stroke

import (
	"iter"
	"strconv"
	"strings"

	"pneumatic/api"
)

// What stands in texts.
const (
	firstLetter    = 'A'
	goesOut        = '+'
	goesIn         = '-'
	betweenStrokes = " "
	betweenSteps   = "; "
)

// maxFigures is how many digits a Wait in a text has at most.
const maxFigures = 7

// strokeText returns the text of a right stroke.
func strokeText(x api.Stroke) string {
	sense := goesIn
	if x.Out {
		sense = goesOut
	}
	return string([]rune{firstLetter + rune(x.Actuator), sense})
}

// stepText returns the text of a right step.
func stepText(x api.Step) string {
	text := joined(x.Strokes, betweenStrokes, strokeText)
	if x.Wait == 0 {
		return text
	}
	return text + betweenStrokes + strconv.Itoa(x.Wait)
}

// joined returns the texts of elements with a separator between.
func joined[T any](l []T, separator string, textOf func(T) string) string {
	var texts []string
	for _, x := range l {
		texts = append(texts, textOf(x))
	}
	return strings.Join(texts, separator)
}

// parts yields the offset and the text of each part between separators, from the left to the right.
func parts(text, separator string) iter.Seq2[int, string] {
	return func(yield func(at int, part string) bool) {
		for at := 0; ; {
			part, _, more := strings.Cut(text[at:], separator)
			if !yield(at, part) || !more {
				return
			}
			at += len(part) + len(separator)
		}
	}
}

// readStep returns the strokes and the Wait in a text, which are no step if CheckStep says so, and whether it has the form of one.
func readStep(text string) (api.Step, bool) {
	var x api.Step
	for _, part := range parts(text, betweenStrokes) {
		if x.Wait != 0 {
			return api.Step{}, false
		}
		if s, ok := readStroke(part); ok {
			x.Strokes = append(x.Strokes, s)
			continue
		}
		wait, ok := readWait(part)
		if !ok || len(x.Strokes) == 0 {
			return api.Step{}, false
		}
		x.Wait = wait
	}
	return x, true
}

// readStroke returns the stroke with a text, if there is one.
func readStroke(text string) (api.Stroke, bool) {
	letters := []rune(text)
	if len(letters) != 2 || letters[1] != goesOut && letters[1] != goesIn {
		return api.Stroke{}, false
	}
	x := api.Stroke{Actuator: int(letters[0] - firstLetter), Out: letters[1] == goesOut}
	return x, Check(x) == api.OK
}

// readWait returns the number with a text, if there is one that is not 0. It may be too large for a Wait.
func readWait(text string) (int, bool) {
	wait, err := strconv.Atoi(text)
	// Atoi permits signs and leading zeros.
	if err != nil || wait <= 0 || len(text) > maxFigures || strconv.Itoa(wait) != text {
		return 0, false
	}
	return wait, true
}
