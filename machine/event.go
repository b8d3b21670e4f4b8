package machine

import (
	"slices"

	"upshift/api"
	"upshift/loop"
)

// meet lets the events come that are ahead of the next step. None of an earlier step is left: no stretch goes beyond the next event.
func (m *Machine) meet() {
	for len(m.events) > 0 && m.events[0].Step == m.steps {
		m.come(m.events[0])
		m.events = m.events[1:]
	}
}

func (m *Machine) come(e api.Event) {
	switch e.Kind {
	case api.Compile:
		m.compile(e.N)
	case api.Drop:
		m.drop(e.N)
	case api.Enter:
		m.enter(m.frames.Top())
	case api.Exit:
		m.exit()
	}
}

func (m *Machine) compile(fun int) {
	if m.made[fun] == nil {
		m.made[fun] = compiled(m.program[fun].Code)
	}
}

func (m *Machine) drop(fun int) {
	m.made[fun] = nil
	for _, f := range m.frames.List() {
		if f.fun == fun {
			m.lower(f)
		}
	}
}

func (m *Machine) enter(f *frame) {
	made := m.made[f.fun]
	if f.code == nil && made != nil && slices.Contains(loop.Heads(m.program[f.fun].Code), f.at) {
		f.code = made
		m.counts.Ups++
	}
}

func (m *Machine) exit() {
	for _, f := range m.frames.List() {
		m.lower(f)
	}
}

func (m *Machine) lower(f *frame) {
	if f.code != nil {
		f.code = nil
		m.counts.Downs++
	}
}
