package machine

import (
	"eyot/api"
	"eyot/nest"
)

// What a job tells the nest.
const (
	build = iota // what an instruction makes
	water        // a leaf of water
	shut         // that the open node ends
)

// job is what is to be told to the nest, from a place to another.
type job struct {
	what     int
	ins      int
	from, to int
}

// builder builds the tree of what matches; of its jobs the last one is done first.
type builder struct {
	machine *machine
	nest    *nest.Nest
	jobs    []job
}

// tree answers the tree of the instruction 0, that matches up to end; false, if a limit was met.
func (m *machine) tree(end int) ([]api.Leaf, bool) {
	b := &builder{machine: m, nest: nest.New(), jobs: []job{{what: build, to: end}}}
	for len(b.jobs) > 0 {
		j := b.jobs[len(b.jobs)-1]
		b.jobs = b.jobs[:len(b.jobs)-1]
		switch j.what {
		case water:
			b.nest.Leaf(api.KindWater, j.from, j.to)
		case shut:
			b.nest.Close(j.to)
		case build:
			if !b.build(j) {
				return nil, false
			}
		}
	}
	return b.nest.Tree(), true
}

// later leaves jobs to be done, the first one first.
func (b *builder) later(l ...job) bool {
	for i := len(l) - 1; i >= 0; i-- {
		b.jobs = append(b.jobs, l[i])
	}
	return true
}

// build tells the nest what an instruction makes, that matches from j.from to j.to; false, if a limit was met.
func (b *builder) build(j job) bool {
	x := &b.machine.code[j.ins]
	switch x.Op {
	case api.OpLit, api.OpClass, api.OpAny:
		b.nest.Leaf(api.KindText, j.from, j.to)
	case api.OpRef:
		return b.node(api.KindRule, x, j)
	case api.OpLabel:
		return b.node(api.KindLabel, x, j)
	case api.OpSea:
		return b.sea(x, j)
	case api.OpSeq:
		return b.row(x, j)
	case api.OpStar, api.OpPlus:
		return b.often(x, j)
	case api.OpChoice:
		return b.first(x.Kids, j)
	case api.OpOpt:
		return b.maybe(x.Kids[0], j)
	}
	return true
}

// node opens a node; its Kid and its end come later.
func (b *builder) node(kind int, x *api.Ins, j job) bool {
	b.nest.Open(kind, x.Text, j.from)
	return b.later(job{build, x.Kids[0], j.from, j.to}, job{what: shut, to: j.to})
}

func (b *builder) row(x *api.Ins, j job) bool {
	var l []job
	at, last := j.from, len(x.Kids)-1
	for _, k := range x.Kids[:last] {
		out, ok := b.machine.know(k, at)
		if !ok {
			return false
		}
		l = append(l, job{build, k, at, out.end})
		at = out.end
	}
	return b.later(append(l, job{build, x.Kids[last], at, j.to})...)
}

func (b *builder) often(x *api.Ins, j job) bool {
	var l []job
	for at := j.from; at < j.to; {
		out, ok := b.machine.know(x.Kids[0], at)
		if !ok {
			return false
		}
		l = append(l, job{build, x.Kids[0], at, out.end})
		at = out.end
	}
	return b.later(l...)
}

// first builds the first one that matches; the last one must, if no other does.
func (b *builder) first(kids []int, j job) bool {
	last := len(kids) - 1
	for _, k := range kids[:last] {
		out, ok := b.machine.know(k, j.from)
		if !ok {
			return false
		}
		if out.ok {
			return b.later(job{build, k, j.from, j.to})
		}
	}
	return b.later(job{build, kids[last], j.from, j.to})
}

// maybe builds what may be there, if it is.
func (b *builder) maybe(kid int, j job) bool {
	out, ok := b.machine.know(kid, j.from)
	if ok && out.ok {
		b.later(job{build, kid, j.from, j.to})
	}
	return ok
}

// sea looks for the island once more: it is there, and no shore ahead of it.
func (b *builder) sea(x *api.Ins, j job) bool {
	at := j.from
	isle, ok := b.machine.know(x.Kids[0], at)
	for ok && !isle.ok {
		step := fail(at)
		if x.Water >= 0 {
			step, ok = b.machine.know(x.Water, at)
		}
		if ok {
			at = behind(step, at)
			isle, ok = b.machine.know(x.Kids[0], at)
		}
	}
	if !ok {
		return false
	}
	b.nest.Open(api.KindSea, "", j.from)
	b.later(job{what: shut, to: j.to})
	if isle.end < j.to {
		b.later(job{what: water, from: isle.end, to: j.to})
	}
	b.later(job{build, x.Kids[0], at, isle.end})
	if j.from < at {
		b.later(job{what: water, from: j.from, to: at})
	}
	return true
}
