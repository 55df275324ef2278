// Package sample makes modules and grammars for the tests of the layers.
package sample

import (
	"eyot/alphabet"
	"eyot/api"
	"eyot/dialect"
	"eyot/joint"
)

// Join answers the grammar that the modules' texts are.
func Join(start string, texts ...string) (api.Grammar, api.Fault) {
	var l []api.Module
	for _, s := range texts {
		m, fault := dialect.Parse(s)
		if fault.Err != api.OK {
			return api.Grammar{}, fault
		}
		l = append(l, m)
	}
	return joint.Join(l, start)
}

// rules are the names of the rules that Modules makes: a module's own, and those of the one that it imports.
func rules() []string {
	return []string{"r0", "r1", "r2", "r3", "s0", "s1"}
}

// maker makes expressions as it is told by pick, which answers a number from 0 to below its argument.
type maker struct {
	pick func(n int) int
	rule int // the place of the rule that is made
}

// Modules answers two modules, as pick tells, of which the first one has a rule r0. They can be joined; the grammar may be, or may not.
func Modules(pick func(n int) int) []api.Module {
	k := &maker{pick: pick}
	m := api.Module{Name: "m", Imports: []string{"n"}}
	n := api.Module{Name: "n", Imports: []string{"m"}}
	if pick(2) == 0 {
		m.Wet, m.Water = true, k.solid(2)
	}
	if pick(4) == 0 {
		n.Wet, n.Water = true, k.solid(2)
	}
	for i, name := range rules() {
		k.rule = i
		r := api.Rule{Name: name, Body: k.expr(1 + pick(4))}
		if name[0] == 'r' {
			m.Rules = append(m.Rules, r)
		} else {
			n.Rules = append(n.Rules, r)
		}
	}
	return []api.Module{m, n}
}

// expr makes any expression of at most so many within one another.
func (k *maker) expr(deep int) api.Expr {
	if deep <= 1 {
		return k.leaf()
	}
	switch k.pick(14) {
	case 0:
		return k.leaf()
	case 1, 2:
		return k.later()
	case 3:
		return api.Expr{Op: api.OpSeq, Kids: []api.Expr{k.leaf(), k.reference(0)}}
	case 4, 5:
		return k.several(api.OpSeq, deep)
	case 6, 7:
		return k.several(api.OpChoice, deep)
	case 8:
		return within(api.OpStar, k.solid(deep-1))
	case 9:
		return within(api.OpPlus, k.solid(deep-1))
	case 10:
		return within(api.OpOpt, k.expr(deep-1))
	case 11:
		return within(api.OpAnd+k.pick(2), k.expr(deep-1))
	case 12:
		return api.Expr{Op: api.OpLabel, Text: []string{"x", "y", "z"}[k.pick(3)], Kids: []api.Expr{k.expr(deep - 1)}}
	}
	return within(api.OpSea, k.solid(deep-1))
}

// solid makes an expression that most often can't take nothing.
func (k *maker) solid(deep int) api.Expr {
	switch {
	case deep > 1 && k.pick(2) == 0:
		return k.expr(deep)
	case deep > 1:
		return api.Expr{Op: api.OpSeq, Kids: []api.Expr{k.leaf(), k.expr(deep - 1)}}
	}
	return k.leaf()
}

func (k *maker) several(op, deep int) api.Expr {
	e := api.Expr{Op: op}
	for range 2 + k.pick(2) {
		e.Kids = append(e.Kids, k.expr(deep-1))
	}
	return e
}

// later makes a reference to a rule behind the one that is made, or a leaf, so that few rules call themselves where they begin.
func (k *maker) later() api.Expr {
	if k.rule+1 >= len(rules()) {
		return k.leaf()
	}
	return k.reference(k.rule + 1)
}

func (k *maker) reference(from int) api.Expr {
	return api.Expr{Op: api.OpRef, Text: rules()[from+k.pick(len(rules())-from)]}
}

func (k *maker) leaf() api.Expr {
	switch k.pick(7) {
	case 0:
		return api.Expr{Op: api.OpAny}
	case 1:
		return api.Expr{Op: api.OpClass, Set: alphabet.Range('a', 'b')}
	case 2:
		return api.Expr{Op: api.OpClass, Set: alphabet.Not(alphabet.Range('b', 'b'))}
	}
	return api.Expr{Op: api.OpLit, Text: []string{"a", "b", "c", "ab"}[k.pick(4)]}
}

func within(op int, e api.Expr) api.Expr {
	return api.Expr{Op: op, Kids: []api.Expr{e}}
}
