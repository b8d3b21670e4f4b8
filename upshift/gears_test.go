package upshift

import (
	"slices"

	"upshift/api"
)

// geared is the model of a run with its gears, each of them a mark beside a frame; it knows nothing of stretches.
type geared struct {
	model
	high     []bool // of the frames, from the bottom on
	compiled [api.MaxFuncs]bool
	counts   api.Counts
}

// trace tells a run behind each number of steps, up to that fuel or its end, with the events that have come by then.
func trace(program []api.Func, events []api.Event, fuel int) []geared {
	g := geared{model: newModel(program), high: []bool{false}}
	var all []geared
	for {
		for !g.over() && len(events) > 0 && events[0].Step == g.outcome.Steps {
			g = g.meets(events[0])
			events = events[1:]
		}
		all = append(all, g)
		if g.over() || g.outcome.Steps == fuel {
			return all
		}
		g = g.next()
	}
}

func (g geared) next() geared {
	was := len(g.state.Frames)
	if g.high[was-1] {
		g.counts.High++
	}
	g.model = g.model.next()
	g.high = slices.Clone(g.high)
	switch is := len(g.state.Frames); {
	case is < was:
		g.high = g.high[:is]
	case is > was:
		g.high = append(g.high, g.compiled[g.hand().Fun])
	}
	return g
}

func (g geared) meets(e api.Event) geared {
	g.high = slices.Clone(g.high)
	switch last := len(g.high) - 1; e.Kind {
	case api.Compile:
		g.compiled[e.N] = true
	case api.Drop:
		g.compiled[e.N] = false
		g.down(func(fun int) bool { return fun == e.N })
	case api.Enter:
		if !g.high[last] && g.compiled[g.hand().Fun] && g.atHead() {
			g.high[last] = true
			g.counts.Ups++
		}
	case api.Exit:
		g.down(func(int) bool { return true })
	}
	return g
}

func (g *geared) down(of func(fun int) bool) {
	for k, f := range g.state.Frames {
		if g.high[k] && of(f.Fun) {
			g.high[k] = false
			g.counts.Downs++
		}
	}
}

func (g *geared) atHead() bool {
	at := g.hand().At
	for from, i := range g.program[g.hand().Fun].Code {
		if (i.Op == api.Jump || i.Op == api.Branch) && i.A == int64(at) && from >= at {
			return true
		}
	}
	return false
}

func compile(step, n int) api.Event { return api.Event{Step: step, Kind: api.Compile, N: n} }

func drop(step, n int) api.Event { return api.Event{Step: step, Kind: api.Drop, N: n} }

func enter(step int) api.Event { return api.Event{Step: step, Kind: api.Enter} }

func exit(step int) api.Event { return api.Event{Step: step, Kind: api.Exit} }

func script(events ...api.Event) []api.Event { return events }
