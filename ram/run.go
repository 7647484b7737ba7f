package ram

import (
	"iter"

	"sorites/api"
	"sorites/model"
	"sorites/query"
	"sorites/rel"
)

// bearable is how many rows a query may come to, at most, to be run without
// asking ahead whether there is room for them.
const bearable = 1 << 16

// running is a program that is run.
type running struct {
	prog  api.Prog
	rows  [][][]api.Val
	fresh map[int][][]api.Val // what is new, by relations that have new rows
	next  map[int][][]api.Val // what will be new behind the round
	limit int
	room  int // how many rows there may be yet; less than none, if there are too many
	// is it known that all rows that will come have room?
	isSure bool
}

func newRunning(p api.Prog, in [][][]api.Val, limit int) *running {
	r := &running{prog: p, limit: limit, room: limit, fresh: map[int][][]api.Val{}, next: map[int][][]api.Val{}}
	for _, l := range in {
		r.rows = append(r.rows, rel.Sort(l))
		r.room -= len(l)
	}
	return r
}

// eachTurn runs a block, and yields after each turn how many rounds there have
// been: none after the first one, in which the rows are laid that come once.
func (r *running) eachTurn(b api.Block) iter.Seq[int] {
	return func(yield func(int) bool) {
		r.run(tasksOf(r.prog, b.Once))
		r.layNext(b.Rels)
		r.renewAll(b.Rels)
		loop := tasksOf(r.prog, b.Loop)
		for n := 0; yield(n) && len(loop) > 0 && len(r.fresh) > 0; n++ {
			r.run(loop)
			r.layNext(b.Rels)
		}
	}
}

// renewAll makes all rows of a block's relations new.
func (r *running) renewAll(rels []int) {
	for _, k := range rels {
		if len(r.rows[k]) > 0 {
			r.fresh[k] = r.rows[k]
		}
	}
}

// run gathers what queries give on the rows that there are, and is not there.
// It stops as soon as there are too many rows.
func (r *running) run(tasks []task) {
	for _, t := range tasks {
		if r.room < 0 {
			return
		}
		most := t.most(r.rows, r.fresh)
		if most > bearable && !r.hasRoomForAll() {
			r.room = -1
			return
		}
		if most > 0 {
			given, _ := query.Run(t.alone, t.query, t.pick(r.rows), t.delta(r.fresh))
			r.gather(t.query.Rel, given)
		}
	}
}

// hasRoomForAll asks for the model, which ends as soon as there are too many
// rows; a query that gives far too many does not. What has been laid so far is
// of the model, so the model of it is the same.
func (r *running) hasRoomForAll() bool {
	if !r.isSure {
		_, e := model.Eval(r.prog, r.rows, r.limit)
		r.isSure = e == api.OK
	}
	return r.isSure
}

func (r *running) gather(k int, given [][]api.Val) {
	var l [][]api.Val
	for _, row := range given {
		if !has(r.rows[k], row) && !has(r.next[k], row) {
			l = append(l, row)
		}
	}
	if len(l) > 0 {
		r.next[k] = merged(r.next[k], l)
		r.room -= len(l)
	}
}

// layNext lays what was gathered to the rows of a block's relations: it alone
// is new then.
func (r *running) layNext(rels []int) {
	clear(r.fresh)
	for _, k := range rels {
		r.rows[k] = merged(r.rows[k], r.next[k])
	}
	r.fresh, r.next = r.next, r.fresh
}
