package hazard

import "pneumatic/api"

// both has what a product of two values is.
var both = [3][3]int{
	Low:     {Low, Low, Low},
	High:    {Low, High, Unknown},
	Unknown: {Low, Unknown, Unknown},
}

// either has what a sum of two values is.
var either = [3][3]int{
	Low:     {Low, High, Unknown},
	High:    {High, High, High},
	Unknown: {Unknown, High, Unknown},
}

// sum returns the value of a form during a change.
func sum(n int, form []api.Cube, change Change) int {
	value := Low
	for _, c := range form {
		value = either[value][product(n, c, change)]
	}
	return value
}

// product returns the value of a cube during a change.
func product(n int, c api.Cube, change Change) int {
	value := High
	for i := range n {
		if c.Care>>i&1 == 1 {
			value = both[value][literal(i, c, change)]
		}
	}
	return value
}

// literal returns the value of a cube's condition for the variable i during a change.
func literal(i int, c api.Cube, change Change) int {
	from, to, asked := change.From>>i&1, change.To>>i&1, int(c.Value>>i&1)
	switch {
	case from != to:
		return Unknown
	case from == asked:
		return High
	default:
		return Low
	}
}
