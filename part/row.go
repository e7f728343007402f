package part

import (
	"pneumatic/api"
	"pneumatic/lexer"
)

// The positions.
const (
	atRest = iota
	moved
)

// effect is what a part does in a position.
type effect struct {
	passes []Pass
	vents  []string
}

// byRole has the names of the ports with each role, in the order of the roles: ascending, with a space between.
type byRole [Roles]string

// row has what is known of a kind.
type row struct {
	word, letter string
	ports        byRole
	positions    int
	// plus and minus are the pilots that lead to the positions 1 and 0, if there are such.
	plus, minus string
	does        func(position int) effect
}

// catalogue returns the rows of all kinds.
func catalogue() [Kinds]row {
	return [Kinds]row{
		Supply:   {"supply", "Z", byRole{RoleOut: "1"}, 1, "", "", nothing},
		Cylinder: {"cylinder", "A", byRole{RoleChamber: "2 4"}, 1, "", "", nothing},
		Valve52:  {"valve52", "V", byRole{"1", "2 4", "3 5", "12 14", ""}, 2, "14", "12", changeOver},
		Valve52S: {"valve52s", "V", byRole{"1", "2 4", "3 5", "14", ""}, 2, "14", "", changeOver},
		Valve32:  {"valve32", "V", byRole{"1", "2", "3", "12", ""}, 2, "12", "", open},
		Valve32O: {"valve32o", "V", byRole{"1", "2", "3", "10", ""}, 2, "10", "", shut},
		Limit:    {"limit", "S", byRole{"1", "2", "3", "", ""}, 2, "", "", open},
		Button:   {"button", "S", byRole{"1", "2", "3", "", ""}, 2, "", "", open},
		Shuttle:  {"shuttle", "V", byRole{"1 11", "2", "", "", ""}, 1, "", "", passEither},
		Twin:     {"twin", "V", byRole{"1 11", "2", "", "", ""}, 1, "", "", passBoth},
		Quick:    {"quick", "V", byRole{"1", "2", "3", "", ""}, 1, "", "", pass},
		Throttle: {"throttle", "V", byRole{"1", "2", "", "", ""}, 1, "", "", pass},
		Delay:    {"delay", "V", byRole{"1", "2", "3", "12", ""}, 2, "12", "", open},
		Counter:  {"counter", "V", byRole{"1", "2", "3", "12", ""}, 2, "12", "", open},
	}
}

// rowOf returns the row of a kind.
func rowOf(kind int) (row, api.Errno) {
	if kind < 0 || kind >= Kinds {
		return row{}, api.ErrArg
	}
	return catalogue()[kind], api.OK
}

// rowIn returns the row of a kind that has a position.
func rowIn(kind, position int) (row, api.Errno) {
	r, e := rowOf(kind)
	if e != api.OK {
		return row{}, e
	}
	if position < 0 || position >= r.positions {
		return row{}, api.ErrRange
	}
	return r, api.OK
}

// portsWith returns the names of the ports with a role, ascending.
func (r row) portsWith(role int) []string { return lexer.Fields(r.ports[role]) }

// nothing is what supplies and cylinders do.
func nothing(int) effect { return effect{} }

// pass is what parts do that always let pressure through.
func pass(int) effect {
	return effect{passes: []Pass{{To: "2", From: []string{"1"}}}}
}

// passEither is what shuttles do.
func passEither(int) effect {
	return effect{passes: []Pass{{To: "2", From: []string{"1", "11"}}}}
}

// passBoth is what two-pressure valves do.
func passBoth(int) effect {
	return effect{passes: []Pass{{To: "2", From: []string{"1", "11"}, All: true}}}
}

// changeOver is what 5/2 valves do.
func changeOver(position int) effect {
	if position == moved {
		return effect{passes: []Pass{{To: "4", From: []string{"1"}}}, vents: []string{"2"}}
	}
	return effect{passes: []Pass{{To: "2", From: []string{"1"}}}, vents: []string{"4"}}
}

// open is what 3/2 valves do that are shut at rest.
func open(position int) effect {
	if position == moved {
		return pass(position)
	}
	return effect{vents: []string{"2"}}
}

// shut is what 3/2 valves do that are open at rest.
func shut(position int) effect {
	if position == moved {
		return effect{vents: []string{"2"}}
	}
	return pass(position)
}
