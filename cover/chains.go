package cover

import "slices"

// One order serves several sets just if of each two of them one is within the
// other: if they stand above each other, as a chain. So the sets are parted
// into as few chains as can be, that is: as many of them as can be are laid
// right above another one, no two above the same.

// piles tell which set lies right above one, and which one right below.
type piles struct {
	above, below map[columns]columns
}

// chainsOf are the chains, each from its lowest set on. There is an order even
// if there is no set, so that is one chain of none.
func chainsOf(sets []columns) [][]columns {
	if len(sets) == 0 {
		return [][]columns{nil}
	}
	p := pileUp(sets)
	var chains [][]columns
	for s := range slices.Values(sets) {
		if _, isHigher := p.below[s]; isHigher {
			continue
		}
		chain := []columns{s}
		for next, is := p.above[s]; is; next, is = p.above[next] {
			chain = append(chain, next)
		}
		chains = append(chains, chain)
	}
	return chains
}

// pileUp searches for each set, as top, one that has room for it. Where a set
// lies on one that would do, that set may move away, if one has room for it,
// and so on. A search that fails would fail behind any other one, too, so no
// top is tried twice.
func pileUp(sets []columns) piles {
	p := piles{map[columns]columns{}, map[columns]columns{}}
tops:
	for top := range slices.Values(sets) {
		askedBy := map[columns]columns{}
		lows := askBelow(sets, top, askedBy)
		for {
			if len(lows) == 0 {
				continue tops
			}
			mover, isTaken := p.above[lows[0]]
			if !isTaken {
				break
			}
			lows = append(lows[1:], askBelow(sets, mover, askedBy)...)
		}
		p.move(lows[0], askedBy)
	}
	return p
}

// askBelow are the sets below one for which nobody has asked yet; they are
// asked for now.
func askBelow(sets []columns, mover columns, askedBy map[columns]columns) []columns {
	var lows []columns
	for low := range eachBelow(sets, mover) {
		if _, isAsked := askedBy[low]; !isAsked {
			askedBy[low] = mover
			lows = append(lows, low)
		}
	}
	return lows
}

// move lays onto a set that has room the one that asked for it, onto that
// which it leaves the one that asked for that, up to the one that lay on none.
func (p piles) move(low columns, askedBy map[columns]columns) {
	for {
		mover := askedBy[low]
		left, isFromElsewhere := p.below[mover]
		p.above[low], p.below[mover] = mover, low
		if !isFromElsewhere {
			return
		}
		low = left
	}
}
