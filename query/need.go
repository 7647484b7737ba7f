package query

import (
	"slices"

	"sorites/api"
)

// neededAhead are the variables that a step, or one behind it, needs from those
// ahead of it, each once.
func neededAhead(s api.Step, behind []string) []string {
	var ahead []string
	for _, name := range slices.Concat(varsOf(s.Terms...), varsOf(s.X, s.Y), behind) {
		isGiven := name == s.S || slices.Contains(s.Binds, name)
		if !isGiven && !slices.Contains(ahead, name) {
			ahead = append(ahead, name)
		}
	}
	return ahead
}

func varsOf(l ...api.Term) []string {
	var names []string
	for _, t := range l {
		if t.Op == api.OVar {
			names = append(names, t.S)
		}
		names = append(names, varsOf(t.L...)...)
	}
	return names
}

func isWithin(names, all []string) bool {
	return !slices.ContainsFunc(names, func(name string) bool { return !slices.Contains(all, name) })
}
