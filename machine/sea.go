package machine

import "eyot/api"

// The stages of a sea: for what it has asked, or is to ask next.
const (
	begins = iota
	forIsle
	forShore
	forWater
	ashore // a shore matches where it has come to
)

// sea lets a sea go on with what it has got.
func (m *machine) sea(f *frame, x *api.Ins, got outcome) move {
	f.hear(got)
	for {
		switch f.stage {
		case forIsle:
			return ask(x.Kids[0], f.pos)
		case forShore:
			if f.pos == len(m.input) {
				return f.land()
			}
			if f.shore < len(x.Next) {
				return ask(x.Next[f.shore], f.pos)
			}
			f.stage = forWater
		case forWater:
			if x.Water >= 0 {
				return ask(x.Water, f.pos)
			}
			f.step(fail(f.pos))
		case ashore:
			return f.land()
		}
	}
}

// hear takes what a sea has got for what it asked last.
func (f *frame) hear(got outcome) {
	switch f.stage {
	case begins:
		f.stage = forIsle
	case forIsle:
		if got.ok {
			f.found, f.pos, f.far = true, got.end, got.far
		}
		f.stage, f.shore = forShore, 0
	case forShore:
		f.shore++
		if got.ok && got.end > f.pos {
			f.stage = ashore
		}
	case forWater:
		f.step(got)
	}
}

// step goes on by what the water comes to, to the next place at which something is asked for.
func (f *frame) step(water outcome) {
	f.pos = behind(water, f.pos)
	f.stage, f.shore = forIsle, 0
	if f.found {
		f.stage = forShore
	}
}

// behind is where a step ends.
func behind(water outcome, at int) int {
	if water.ok && water.end > at {
		return water.end
	}
	return at + 1
}

// land ends a sea where there is the end, or a shore.
func (f *frame) land() move {
	if f.found {
		return done(match(f.pos, f.far))
	}
	return done(fail(f.pos))
}
