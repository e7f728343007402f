package circuit

import (
	"cmp"
	"slices"

	"pneumatic/api"
)

// checkPipes returns OK for pipes in order between ports that exist.
func checkPipes(c api.Circuit) api.Errno {
	for k, pipe := range c.Pipes {
		from, to := checkPort(c.Parts, pipe.From), checkPort(c.Parts, pipe.To)
		if from == api.ErrRange || to == api.ErrRange {
			return api.ErrRange
		}
		if e := cmp.Or(from, to); e != api.OK {
			return e
		}
		backwards := comparePorts(pipe.From, pipe.To) >= 0
		if backwards || k > 0 && comparePipes(c.Pipes[k-1], pipe) >= 0 {
			return api.ErrOrder
		}
	}
	return api.OK
}

// between returns the pipe between two ports, whichever comes first.
func between(a, b api.Port) api.Pipe {
	if comparePorts(a, b) > 0 {
		a, b = b, a
	}
	return api.Pipe{From: a, To: b}
}

// comparePipes tells which of two pipes comes first.
func comparePipes(a, b api.Pipe) int {
	return cmp.Or(comparePorts(a.From, b.From), comparePorts(a.To, b.To))
}

// apart returns the pipes that do not lead to a part.
func apart(pipes []api.Pipe, at int) []api.Pipe {
	return slices.DeleteFunc(slices.Clone(pipes), func(pipe api.Pipe) bool {
		return pipe.From.Part == at || pipe.To.Part == at
	})
}

// mapped returns pipes with the indices that their parts have behind a change.
func mapped(pipes []api.Pipe, index func(k int) int) []api.Pipe {
	moved := func(p api.Port) api.Port { return api.Port{Part: index(p.Part), Name: p.Name} }
	var l []api.Pipe
	for _, pipe := range pipes {
		l = append(l, api.Pipe{From: moved(pipe.From), To: moved(pipe.To)})
	}
	return l
}
