package model

// reckoning makes the model, group by group.
type reckoning struct {
	known relations
	room  int // how many rows there may be yet
}

// reckon lays to a group's relations what its rules give, round by round, as
// long as something is new. In all rounds but the first one an LAtom of the
// group goes through what is new alone: the rest has been gone through. It
// answers false, if there is no room.
func (m *reckoning) reckon(rules []plan, group []int) bool {
	for _, r := range rules {
		if !m.fire(r, noPart) {
			return false
		}
	}
	for m.advance(group) {
		for _, r := range rules {
			for _, k := range r.atomsOf(group) {
				if !m.fire(r, k) {
					return false
				}
			}
		}
	}
	return true
}

func (m *reckoning) advance(group []int) bool {
	isMore := false
	for _, k := range group {
		isMore = m.known[k].advance() || isMore
	}
	return isMore
}

// fire stops as soon as there are too many rows, lest a rule that gives far
// too many never ends.
func (m *reckoning) fire(r plan, newAt int) bool {
	return m.known.run(r, newAt, func(v values) bool {
		if m.known[r.rel].add(v.row(r.head)) {
			m.room--
		}
		return m.room >= 0
	})
}
